import Derived.Test.YtdcopmkgmbiikaaGreatDoorPn2
import Derived.Test.YtdcopmkgmbiikaaGreatDoorPn1
import Derived.Test.YtdcopmkgmbiikaaGreatDoorJAwk
set_option maxRecDepth 100000
set_option maxHeartbeats 4000000
namespace Go.Proofs.YtdcopmkgmbiikaaGreatDoor
open Go.RowKit
theorem sY (v0 v1:Value) (w:World) (Q:Ending→World→Prop) (h:Calls Tryz.prog 47 #[.agg #[v0,v1]] (w.alloc (.cells #[v0,v1] 25)) fun e w'=>(∃ v err,e = .returned (.tuple #[v,err]))∧Q e w'):Calls Tryz.prog 21 #[.agg #[v0,v1]] w fun e w'=>(∃ v err,e = .returned (.tuple #[v,err]))∧Q e w':=by
 have H:=ae h
 clear h
 go_enter Tryz.func21,Tryz.ntmps21
 go_wp2_with fail
 refine(aa H).mono ?_
 rintro e w' ⟨⟨v,err,rfl⟩,hr⟩
 have HR:=ae hr
 clear hr
 go_wp2_with fail
 go_ret2
 exact⟨⟨v,err,rfl⟩,aa HR⟩
theorem m9 (v0 v1 v2 v3 v4 v5 v6 v7 v8 v9:Value) (w:World) (Q:Ending→World→Prop) (h:Calls Tryz.prog 29 #[.agg #[v0,v1,v2,v3,v4,v5,v6,v7,v8,v9]] (w.alloc (.cells #[v0,v1,v2,v3,v4,v5,v6,v7,v8,v9] 30)) fun e w'=>(∃ v err,e = .returned (.tuple #[v,err]))∧Q e w'):Calls Tryz.prog 13 #[.agg #[v0,v1,v2,v3,v4,v5,v6,v7,v8,v9]] w fun e w'=>(∃ v err,e = .returned (.tuple #[v,err]))∧Q e w':=by
 have H:=ae h
 clear h
 go_enter Tryz.func13,Tryz.ntmps13
 go_wp2_with fail
 refine(aa H).mono ?_
 rintro e w' ⟨⟨v,err,rfl⟩,hr⟩
 have HR:=ae hr
 clear hr
 go_wp2_with fail
 go_ret2
 exact⟨⟨v,err,rfl⟩,aa HR⟩
theorem oW (v0 v1 v2 v3 v4 v5 v6:Value) (w:World) (Q:Ending→World→Prop) (h:Calls Tryz.prog 30 #[.agg #[v0,v1,v2,v3,v4,v5,v6]] (w.alloc (.cells #[v0,v1,v2,v3,v4,v5,v6] 33)) fun e w'=>(∃ v err,e = .returned (.tuple #[v,err]))∧Q e w'):Calls Tryz.prog 14 #[.agg #[v0,v1,v2,v3,v4,v5,v6]] w fun e w'=>(∃ v err,e = .returned (.tuple #[v,err]))∧Q e w':=by
 have H:=ae h
 clear h
 go_enter Tryz.func14,Tryz.ntmps14
 go_wp2_with fail
 refine(aa H).mono ?_
 rintro e w' ⟨⟨v,err,rfl⟩,hr⟩
 have HR:=ae hr
 clear hr
 go_wp2_with fail
 go_ret2
 exact⟨⟨v,err,rfl⟩,aa HR⟩
def CS.wq:CS→Wq
 | .wr s=>s
 | .rd _=>⟨ByteArray.empty,[],none⟩
def CS.rq:CS→Q
 | .wr _=>⟨ByteArray.empty,[],0,0,none⟩
 | .rd q=>q
def gV:CS:=.wr ⟨ByteArray.empty,[],none⟩
def gg (l:List Nat):CS:=.rd ⟨ByteArray.empty,l,0,0,none⟩
theorem ew (n:Nat) (h:n≤1000000):gV.room n:=by simp only[gV,CS.room,CS.len,List.length_nil];omega
theorem jm {s:Wq} {n:Nat} (h:(CS.wr s).room n):s.l.length≤140737488355328:=by simp only[CS.room,CS.len] at h;omega
structure nG (w:World) (x:Value) (l:List Nat):Prop where
 src:Src w x l
 lt:∀ g o m c,x = .slice (some ⟨g,o,none⟩) m c→g<w.heap.size
 len:l.length<9223372036854775808
theorem nG.bvg {w w1:World} {x:Value} {l:List Nat} {F:Nat→Prop} (h:nG w x l) (hf:Fr (fun _=>False) w w1) (hF:∀ k,F k→w.heap.size≤k) (g:Nat) (hg:w.heap.size≤g):n5 w1 x l F g:=
 ⟨⟨h.src.fr hf (fun _ _ _ _ _ h=>h),fun k o m c e=>⟨Nat.lt_of_lt_of_le (h.lt k o m c e) hf.size,fun hx=>by have:=hF k hx;have:=h.lt k o m c e;omega⟩⟩,fun k o m c e=>by have:=h.lt k o m c e;omega,h.len⟩
def gz (size:Nat) (root:List Nat):Wq:=((gV.aE 4).dE (size,root)).1.wq
def bq (l:List Nat):CS × Nat × List Nat:=((gg l).aE 4).dE (0,[])
def aM (l:List Nat):CS × (Nat × List Nat) × Nat × List Nat:=((gg l).aE 5).cR ((0,[]),0,[])
def bf (l:List Nat):CS × List (List Nat):=((gg l).aE 6).fD []
theorem nG.aR {w w1:World} {x:Value} {l:List Nat} (h:nG w x l) (hf:Fr (fun _=>False) w w1):nG w1 x l:=
 ⟨h.src.fr hf (fun _ _ _ _ _ h=>h),fun k o m c e=>Nat.lt_of_lt_of_le (h.lt k o m c e) hf.size,h.len⟩
def cH (w w':World) (e:Ending) (s:Wq) (E:Nat→Addr):Prop:=∃ v err,e = .returned (.tuple #[v,err])∧w'.ownsRow w.heap.size 5 1 v s.out.length (cellsOf s.out)∧df w' err (dn s.f) E∧Fr (fun _=>False) w w'
theorem cH.box {w w':World} {e:Ending} {s:Wq} {E:Nat→Addr} {vs:Array Value} {t:TypeId} (h:cH (w.alloc (.cells vs t)) w' e s E):(∃ v err,e = .returned (.tuple #[v,err]))∧cH w w' e s E:=by
 obtain⟨v,err,rfl,h1,h2,h3⟩:=h
 have hb:=al w (.cells vs t)
 exact⟨⟨v,err,rfl⟩,v,err,rfl,aH h1 hb.size,h2,hb.trans h3 (fun _ _ h=>h)⟩
theorem uh (size:Nat) (root:List Nat) (x:Value) (E:Nat→Addr) (w:World) (hg:G6 w E) (hw:9≤w.heap.size) (hx:nG w x root) (hsz:size<4294967296) :
  Calls Tryz.prog 21 #[.agg #[.int .u32 (size:Nat),x]] w fun e w'=>cH w w' e (gz size root) E:=by
 have hr:(CS.wr (gz size root)).room 0:=CS.lY (n:=0) (CS.cA (ew 3 (by decide)) 4) (size,root)
 obtain⟨wb,hwb⟩:∃ wb,w.alloc (.cells #[.int .u32 (size:Nat),x] 25)=wb:=⟨_,rfl⟩
 have hbx:Fr (fun _=>False) w wb:=by rw[← hwb];exact al _ _
 have hx':=hx.aR hbx
 have hp:=xF #[.int .u32 (size:Nat),x] (gz size root) E wb (hg.fr hbx (fun _ h=>h.elim)) (by have:=hbx.size;omega) (fun w1 cb b F hC hcs hL hF hf=>by
  refine(lE gV size root x cb b wb.heap.size F E w1 hC (hcs 0 _ rfl) (hcs 1 _ rfl) (hx'.bvg hf (fun k hk=>by have:=hF k hk;omega) _ (Nat.le_refl _)) hL hsz (ew 3 (by decide))).mono ?_
  rintro e w' ⟨rfl,F',hC',_,x',_,_,hs⟩
  exact⟨rfl,F',hC',hs.mono (fun k j _ h=>h.1)⟩) (jm hr)
 refine(sY _ _ w (fun e w'=>cH w w' e (gz size root) E) ?_).mono (fun e w' h=>h.2)
 rw[hwb]
 exact hp.mono (fun e w' h=>by rw[← hwb] at h;exact cH.box h)
structure Cm (w:World) (xo:Option Addr) (xc:Nat) (ps:List (List Nat)):Prop where
 cap:ps.length≤xc
 len:ps.length<9223372036854775808
 el:∀ (j:Nat) p,ps[j]?=some p→∃ g o x,xo=some ⟨g,o,none⟩∧w.cell? ⟨g,o+j,none⟩=some x∧nG w x p
theorem Cm.aR {w w1:World} {xo:Option Addr} {xc:Nat} {ps:List (List Nat)} (h:Cm w xo xc ps) (hf:Fr (fun _=>False) w w1):Cm w1 xo xc ps:=by
 refine⟨h.cap,h.len,fun j p hp=>?_⟩
 obtain⟨g,o,x,h1,h2,h3⟩:=h.el j p hp
 exact⟨g,o,x,h1,(hf.cell (p:=⟨g,o+j,none⟩) (ab h2) (fun h=>h)).trans h2,h3.aR hf⟩
theorem tj (w:World) (p:PT) (hp:p.b=[]):(⟨p,.slice none 0 0⟩:PV).In w:=⟨.inl ⟨rfl,hp⟩,fun _ _ _ _ e=>by cases e⟩
def idV (cl nu:Nat):List PV:=[⟨⟨cV,4,cl,[],0⟩,.slice none 0 0⟩,⟨⟨ep,4,nu,[],0⟩,.slice none 0 0⟩]
def nK (z:Nat) (r:List Nat) (x:Value):List PV:=[⟨⟨cB,4,z,[],0⟩,.slice none 0 0⟩,⟨⟨dp,6,0,r,cu 1 32 r.length⟩,x⟩]
theorem vt (z:Nat) (r:List Nat) (xo:Option Addr) (xc:Nat) (hz:z<4294967296) (w:World) (hx:nG w (.slice xo r.length xc) r) :
  Calls Tryz.prog 53 #[.agg #[.int .u32 (z:Nat),.slice xo r.length xc]] w fun e w'=>∃ v,e = .returned v∧PL w' w.heap.size v (nK z r (.slice xo r.length xc))∧Fr (fun _=>False) w w':=by
 go_enter Tryz.func53,Tryz.ntmps53
 obtain⟨W1,hW1⟩:∃ W1,w.alloc (.cells #[.int .u32 (z:Nat),.slice xo r.length xc] 25)=W1:=⟨_,rfl⟩
 have hf1:Fr (fun _=>False) w W1:=by rw[← hW1];exact al w _
 have hb1:W1.heap[w.heap.size]?=some (.cells #[.int .u32 (z:Nat),.slice xo r.length xc] 25):=by rw[← hW1];exact heap_alloc_new w _
 have HS:Hid (∀ W',Fr (fun _=>False) W1 W'→W'.cell? ⟨w.heap.size,0,none⟩=some (.int .u32 (z:Nat))∧W'.cell? ⟨w.heap.size,1,none⟩=some (.slice xo r.length xc)):=ae (fun W' hf=>by
  have hb:=(hf.block _ (lt_of_block hb1) (fun h=>h)).trans hb1
  exact⟨ag hb rfl,ag hb rfl⟩)
 have HF1:=ae hf1
 have HX:=ae hx
 clear hf1 hb1 hx
 go_wp2_with fail
 refine wp_region_held_drew (S:=(fun W:World=>W.cell? ⟨w.heap.size,0,none⟩=some (.int .u32 (z:Nat))∧W.cell? ⟨w.heap.size,1,none⟩=some (.slice xo r.length xc))) (by kernel_rfl) ((aa HS) _ (Fr.refl _ _).drew) (fun hHeld=>?_)
 refine gA (i:=0) rfl hHeld ?_
 (try simp only[Act.put,bd])
 refine gA (i:=1) rfl hHeld ?_
 (try simp only[Act.put,bd])
 refine gA (i:=3) rfl hHeld ?_
 (try simp only[Act.put,bd])
 refine gA (i:=4) rfl hHeld ?_
 (try simp only[Act.put,bd])
 refine wpAnyH_ready (rs:=[2]) (by kernel_rfl) (by simp) (AllReadyH.cons rfl (fun K hK=>?_) AllReadyH.nil)
 go_simp
 refine(qx cB z hz _).mono ?_
 rintro e w2 ⟨rfl,hf2⟩
 have hf12:Fr (fun _=>False) W1 w2:=(Fr.refl _ _).drew.trans hf2 (fun _ _ h=>h)
 try dsimp only
 refine hK.out _ _ ((aa HS) _ hf12) (fun hHeld=>?_)
 clear hK K
 (try simp only[Act.put,bd])
 refine wpAnyH_ready (rs:=[5]) (by kernel_rfl) (by simp) (AllReadyH.cons rfl (fun K hK=>?_) AllReadyH.nil)
 go_simp
 refine(rJ dp xo r.length xc 1 32 _).mono ?_
 rintro e w3 ⟨rfl,hf3⟩
 have hf13:Fr (fun _=>False) W1 w3:=hf12.trans hf3 (fun _ _ h=>h)
 try dsimp only
 refine hK.out _ _ ((aa HS) _ hf13) (fun hHeld=>?_)
 clear hK K
 (try simp only[Act.put,bd])
 refine wpAnyH_ready (rs:=[6]) (by kernel_rfl) (by simp) (AllReadyH.cons rfl (fun K hK=>?_) AllReadyH.nil)
 go_simp
 refine hK.out _ _ ((aa HS) _ (hf13.alloc _)) (fun hHeld=>?_)
 clear hK K
 (try simp only[Act.put,bd])
 refine gA (i:=7) rfl hHeld ?_
 (try simp only[Act.put,bd])
 refine wpAnyH_done (by kernel_rfl) ?_ _
 clear hHeld
 have hsz:w.heap.size≤w3.heap.size:=Nat.le_trans (aa HF1).size hf13.size
 have hx3:=(aa HX).aR ((aa HF1).trans hf13 (fun _ _ h=>h))
 have hP:=PL.lit w3 w.heap.size (nK z r (.slice xo r.length xc)) hsz (fun q hq=>by
  simp only[nK,List.mem_cons,List.not_mem_nil,or_false] at hq
  rcases hq with rfl|rfl
  ·exact tj _ _ rfl
  ·exact⟨hx3.src,fun g o n c e=>hx3.lt g o _ c e⟩) (by simp[nK])
 have HP:=ae hP
 have HF:=ae (((aa HF1).trans hf13 (fun _ _ h=>h)).alloc (.cells ((nK z r (.slice xo r.length xc)).flatMap PV.cs).toArray 110))
 clear hP hf13 hf12 hf2 hf3 HF1 HS hsz hx3 HX
 go_wp2_with fail
 go_ret
 exact⟨_,rfl,aa HP,aa HF⟩
end Go.Proofs.YtdcopmkgmbiikaaGreatDoor
namespace Go.Proofs.YtdcopmkgmbiikaaGreatDoor
open Go.RowKit
end Go.Proofs.YtdcopmkgmbiikaaGreatDoor
namespace Go.Proofs.YtdcopmkgmbiikaaGreatDoor
open Go.RowKit
variable {L:List Nat}
theorem Q.go_num {q:Q} {k:Int} {m:Int} (hk:k=1∨k=4∨k=5∨k=7) (h:(q.go k m).1.f=none):q.f=none∧(q.go k m).1.all=q.all∧(q.go k m).1.place=q.place+wid k∧q.place+wid k≤q.all.length∧(q.go k m).2.1=q.num (wid k)∧(k=5→bM (q.num 4)=true)∧(k=7→(q.num 4:Int)≤m):=by
 have k10:¬ k=10:=by omega
 have k9:¬ k=9:=by omega
 have k6:k≠6:=by omega
 unfold Q.go Q.step at h ⊢
 simp only[k10,k9,if_false,k6,ne_eq,not_false_iff,if_true,false_or] at h ⊢
 by_cases h0:q.f=none
 ·simp only[h0,not_true,if_false] at h ⊢
  by_cases h1:q.all.length<wid k+q.place
  ·simp[h1,Q.fail] at h
  ·simp only[h1,if_false] at h ⊢
   by_cases h2:k=5∧bM (q.num 4)=false
   ·simp[h2,Q.fail] at h
   ·simp only[h2,if_false] at h ⊢
    by_cases h3:k=7∧m<(q.num 4:Int)
    ·simp[h3,Q.fail] at h
    ·simp only[h3,if_false]
     refine⟨trivial,trivial,trivial,by omega,trivial,fun e=>?_,fun e=>by omega⟩
     cases hq:bM (q.num 4)
     ·exact absurd ⟨e,hq⟩ h2
     ·rfl
 ·simp[h0] at h
theorem Q.go_byt {q:Q} {m:Int} (h:(q.go 6 m).1.f=none):q.f=none∧(q.go 6 m).1.all=q.all∧(q.go 6 m).1.place=q.place+4+q.num 4∧q.place+4+q.num 4≤q.all.length∧(q.go 6 m).2.2=(q.all.drop (q.place+4)).take (q.num 4)∧(q.num 4:Int)≤m:=by
 unfold Q.go Q.step at h ⊢
 simp only[show ¬ (6:Int)=10 by decide,show ¬ (6:Int)=9 by decide,show ¬ (6:Int)=5 by decide,if_false,ne_eq,not_true,false_and,true_or,true_and] at h ⊢
 by_cases h0:q.f=none
 ·simp only[h0,not_true,if_false] at h ⊢
  by_cases h1:q.all.length<wid 6+q.place
  ·simp[h1,Q.fail] at h
  ·simp only[h1,if_false] at h ⊢
   by_cases h3:m<(q.num 4:Int)
   ·simp[h3,Q.fail] at h
   ·simp only[h3,if_false] at h ⊢
    by_cases h4:q.all.length<q.num 4+(q.place+4)
    ·simp[h4,Q.fail] at h
    ·simp only[h4,if_false]
     exact⟨trivial,trivial,trivial,by omega,trivial,by omega⟩
 ·simp[h0] at h
theorem Wq.AD (s:Wq):s.ah 0=s:=by simp[Wq.ah]
structure Q.J (q:Q) (s:Wq) (L:List Nat):Prop where
 a:q.all=L
 f:s.f=none
 n:norm s.l=norm (q.all.take q.place)
 le:q.place≤q.all.length
def CS.again (c d:CS) (L:List Nat):Prop:=∃ q s,c = .rd q∧d = .wr s∧(q.f=none→q.J s L)∧∀ x,q.f=some x→x.2.2≠0
def BR (l:List cj):List Value:=l.flatMap cj.vs
theorem zn (a b:List cj):BR (a++b)=BR a++BR b:=by simp[BR]
theorem Tryz.zK:(Tryz.prog.info? 59).map (fun i=>(i.zero,i.size,i.bytes))=some (some (.agg #[.string ⟨#[]⟩,.int .u8 0,.string ⟨#[]⟩,.float .f32 0,.int .u8 0]),5,48):=by kernel_rfl
structure fH (w:World) (base:Nat) (x:Value) (l:List cj) (F:Nat→Prop):Prop where
  nF:∀ k,x.ownBlock=some k→¬ F k
  row:w.ownsRow base 59 5 x l.length (BR l)
  ok:∀ f∈l,f.ok
theorem fH.nil (w:World) (base:Nat) (F:Nat→Prop):fH w base (.slice none 0 0) [] F:=⟨fun _ h=>(by cases h),⟨rfl,.inl ⟨rfl,rfl⟩⟩,fun _ h=>(by cases h)⟩
theorem fH.aP {w w':World} {base:Nat} {x:Value} {l:List cj} {F F':Nat→Prop} {P:Nat→Nat→Prop} (h:fH w base x l F) (hs:ar w w' F F' P) (hP:∀ k j,base≤k→k<w.heap.size→¬ P k j):fH w' base x l F':=
  ⟨fun k hk=>hs.nF (h.row.lt k hk).2 (h.nF k hk),av h.row (fun k hk=>hs.block (h.row.lt k hk).2 (h.nF k hk) (fun j=>hP k j (h.row.lt k hk).1 (h.row.lt k hk).2)),h.ok⟩
theorem dS {w:World} {base t z n:Nat} {v:Value} {xs:List Value} (h:w.ownsRow base t z v n xs):∃ ao cap,v = .slice ao n cap:=by
  rcases h.2 with ⟨rfl,e⟩|⟨g,cap,cur,rfl,_⟩
  · exact⟨none,0,by rw[e]⟩
  · exact⟨some ⟨g,0,none⟩,cap,rfl⟩
theorem fH.app {w:World} {base:Nat} {v:Value} {l:List cj} {F:Nat→Prop} (h:fH w base v l F) (f:cj) (hf:f.ok) (hb:base≤w.heap.size) (hF:∀ k,F k→k<w.heap.size) (hl:l.length≤1000000) :
    ∃ ao cap w',(Builtin.append_ #[28,28] 28 #[v,.slice (some ⟨w.heap.size,0,none⟩) 1 1]).run Tryz.prog (w.alloc (.cells #[.string f.name,.int .u8 (f.kind:Nat),.string f.text,.float .f32 f.value,.int .u8 (f.unit:Nat)] 59)) = .ok (.slice ao (l.length+1) cap) w'∧fH w' base (.slice ao (l.length+1) cap) (l++[f]) F∧Fr (fun g=>v.ownBlock=some g) w w':=by
  obtain⟨i0,hi,hz0,hz1,hz2⟩:=info_parts Tryz.zK
  have hb':=av (w':=w.alloc (.cells #[.string f.name,.int .u8 (f.kind:Nat),.string f.text,.float .f32 f.value,.int .u8 (f.unit:Nat)] 59)) h.row (fun g hg=>Below.heap_alloc _ _ _ (h.row.lt g hg).2)
  obtain⟨v',w',hr,h2,h3,_,h5⟩:=run_append_own_at (P:=Tryz.prog) (w:=w.alloc (.cells #[.string f.name,.int .u8 (f.kind:Nat),.string f.text,.float .f32 f.value,.int .u8 (f.unit:Nat)] 59)) base 28 28 59 i0 (.agg #[.string ⟨#[]⟩,.int .u8 0,.string ⟨#[]⟩,.float .f32 0,.int .u8 0]) 5 48 Tryz.underlying28 hi hz0 hz1 hz2 rfl (by decide) v l.length (BR l) hb' ⟨w.heap.size,0,none⟩ 1 1 f.vs rfl (fun j u hu=>by
    rw[addr_add,World.cell?_alloc_at _ _ _ _ rfl];simpa[cj.vs] using hu) (fun u hu=>by simp[cj.vs] at hu;rcases hu with rfl|rfl|rfl|rfl|rfl <;> rfl) (by simp only[maxLen];omega) (by omega) (by simp;omega)
  obtain⟨ao,cap,rfl⟩:=dS h2
  refine⟨ao,cap,w',hr,⟨fun k hk=>?_,by rw[zn,List.length_append,List.length_singleton];simpa[BR] using h2,fun x hx=>?_⟩,((al w _).mono (fun _ _ h=>h.elim)).grown h3 (fun g hg=>.inl hg)⟩
  · rcases h5 with e|e
    · rw[e] at hk;exact h.nF k hk
    · rw[e] at hk
      cases hk
      exact fun hx=>by have:=hF _ hx;simp at this;omega
  · rcases List.mem_append.mp hx with hx|hx
    · exact h.ok x hx
    · rw[List.mem_singleton] at hx;rw[hx];exact hf
def dQ:cj:=⟨⟨#[]⟩,0,⟨#[]⟩,0,0⟩
theorem Be:dQ.ok:=⟨by decide,by decide,by decide,by decide,by decide⟩
theorem pv (q:Q) (rs:List (Int→Nat)) (ro:Option Addr) (rc:Nat) (last cb b g i kc ka kl:Nat) (ahead:ByteArray) (F:Nat→Prop) (E:Nat→Addr) (w:World) (h:Cd w cb b F (.rd q) E) (hp:w.cell? ⟨g,i,none⟩=some (.slice none 0 0)) (hL:Loc w cb F g i) (hga:g≠ka∧kc≠g∧kl≠g) (hK:vZ w cb kc ka kl F ahead last) (hR:∃ K,dC dm w K (.slice ro rs.length rc) E rs∧∀ k,K k→¬ F k) (hrs:rs.length<1000) :
    Calls Tryz.prog 152 #[.pointer (some ⟨cb,0,none⟩),.string ak,.pointer (some ⟨g,i,none⟩),.int .i64 32,.func (.func 153) #[] #[.pointer (some ⟨kc,0,none⟩),.pointer (some ⟨ka,0,none⟩),.pointer (some ⟨kl,0,none⟩)],.slice ro rs.length rc] w fun e w'=>e = .returned (.tuple #[])∧∃ F',Cd w' cb b F' (fC (aU last) dQ (min ((q.named ak).go 7 32).2.1 32) (((CS.rd q).cv ak 32 (dU 32 rs) 0).1,ahead)).1.1 E∧∃ x,w'.cell? ⟨g,i,none⟩=some x∧fH w' w.heap.size x (fC (aU last) dQ (min ((q.named ak).go 7 32).2.1 32) (((CS.rd q).cv ak 32 (dU 32 rs) 0).1,ahead)).2 F'∧ar w w' F F' (fun k j=>(k=g∧j=i)∨(k=ka∧j=0)):=by
  have k2:=h.g7.k2
  have hl2:=ab k2
  have hsf:=cO
  have hent:∀ (x:Value) (W:World),(callFunc 153 (#[x] ++ #[.pointer (some ⟨kc,0,none⟩),.pointer (some ⟨ka,0,none⟩),.pointer (some ⟨kl,0,none⟩)])).run Tryz.prog W = .ok (.enter 153 (#[x] ++ #[.pointer (some ⟨kc,0,none⟩),.pointer (some ⟨ka,0,none⟩),.pointer (some ⟨kl,0,none⟩)])) W:=fun _ W=>enters Tryz.func153 rfl rfl _ W
  have hhead:=fR (.rd q) ak 0 32 rs cb b F E (.slice ro rs.length rc) w h (by omega) (by decide) hR hrs (by simp only[CS.room,CS.len];omega) 3
  obtain⟨c1,hc1⟩:∃ c1,c1=((CS.rd q).cv ak 32 (dU 32 rs) 0).1:=⟨_,rfl⟩
  obtain⟨n,hn⟩:∃ n,n=((q.named ak).go 7 32).2.1:=⟨_,rfl⟩
  have hn1:((CS.rd q).cv ak 32 (dU 32 rs) 0).2=(n:Int):=by rw[hn];rfl
  have hq1:∃ q',c1 = .rd q':=⟨_,hc1⟩
  have hnlt:n<4294967296:=by rw[hn];exact(q.named ak).go_lt 7 32
  rw[← hc1,hn1] at hhead
  rw[← hc1,← hn]
  clear hc1 hn1 hn
  have HG:=ae hhead
  clear hhead
  obtain⟨N,hN⟩:∃ N,N=min n 32:=⟨_,rfl⟩
  rw[← hN]
  have hNm:N≤32:=by omega
  have HM:=ae hN
  clear hN
  have HW:=ae (dx 0 32 2 E (w.alloc (.cells #[.int .i64 0] 3)) (by decide))
  have H:=ae (And.intro h (And.intro hL (And.intro hK hq1)))
  have hlp:=hL.lt
  clear h hL hq1 hK hR
  go_enter Tryz.func152,Tryz.ntmps152
  go_wp2_with fail
  refine(aa HW).mono ?_
  rintro e w1 ⟨fv,rfl,K0,hF,hf1,hK0⟩
  obtain⟨ao,cp,w2,hr,hcall⟩:=(aa HG) w1 fv K0 hF hf1 hK0 ro rc rfl
  obtain⟨Fc,caps,rfl,_⟩:=hF.ex
  have HR:=ae hr
  have HC:=ae hcall
  clear hF hf1 hK0 hr hcall
  go_wp2_with (at_builtin;refine br rfl _ _ 278 278 rfl _ _ _ rfl rfl (aa HR) ?_)
  refine(aa HC).mono ?_
  rintro e w3 ⟨rfl,F3,hC3,hn3,hlt3,hnF3,hs3⟩
  have H3:=ae (And.intro hC3 hs3)
  clear hC3 hs3 hlt3 hnF3
  by_cases hnm:n≤32
  all_goals
    go_wp2_with fail
    go_loopw [32] (fun iv wr=>∃ (k:Nat) (Fk:Nat→Prop) (x:Value),k≤N∧iv = .int .i64 (k:Nat)∧Cd wr cb b Fk (fC (aU last) dQ k (c1,ahead)).1.1 E∧(∃ q',(fC (aU last) dQ k (c1,ahead)).1.1 = .rd q')∧vZ wr cb kc ka kl Fk (fC (aU last) dQ k (c1,ahead)).1.2 last∧wr.cell? ⟨g,i,none⟩=some x∧fH wr w.heap.size x (fC (aU last) dQ k (c1,ahead)).2 Fk∧ar w wr F Fk (fun k j=>(k=g∧j=i)∨(k=ka∧j=0))) (fun iv _=>N - (intOf iv).toNat)
    case atStart =>
      obtain⟨hC3,hs3⟩:=aa H3
      have hK:=(aa H).2.2.1
      exact⟨0,F3,.slice none 0 0,Nat.zero_le _,rfl,hC3,(aa H).2.2.2,hK.aP hs3 (fun _=>⟨fun h=>h,fun h=>h⟩) ((hs3.oth ka 0 hK.na.lt hK.na.nF (fun h=>h)).trans hK.a),(hs3.oth g i hlp (aa H).2.1.nF (fun h=>h)).trans hp,fH.nil _ _ _,hs3.mono (fun _ _ _ h=>h.elim)⟩
    case round =>
      obtain⟨k,Fk,x,hk,rfl,hCk,⟨qk,hqk⟩,hKk,hxk,hOk,hsk2⟩:=hrel
      by_cases hlt:k<N
      · have hlt':(k:Int)<(n:Int):=by have:=aa HM;omega
        have hltm:(k:Int)<32:=by have:=aa HM;omega
        obtain⟨st,hst⟩:∃ st,st=(fC (aU last) dQ k (c1,ahead)).1:=⟨_,rfl⟩
        obtain⟨lk,hlk⟩:∃ lk,lk=(fC (aU last) dQ k (c1,ahead)).2:=⟨_,rfl⟩
        have hlkl:lk.length=k:=by rw[hlk];exact An _ _ _ _
        rw[← hst] at hCk hqk hKk
        rw[← hlk] at hOk
        rw[hqk] at hCk
        have h0r:wr.cell? ⟨cb,0,none⟩=some (.pointer none):=hCk.c0
        have h1r:wr.cell? ⟨cb,1,none⟩=some (.pointer (some ⟨b,0,none⟩)):=hCk.c1
        have hlg:=ab hxk
        have hlcr:=ab h0r
        have hLk:=(aa H).2.1.aP hsk2
        have hbx:=al wr (.cells #[.string ⟨#[]⟩,.int .u8 0,.string ⟨#[]⟩,.float .f32 0,.int .u8 0] 59)
        have hblk:=heap_alloc_new wr (.cells #[.string ⟨#[]⟩,.int .u8 0,.string ⟨#[]⟩,.float .f32 0,.int .u8 0] 59)
        have HCL:=ae (j9 (.rd qk) dQ st.2 last cb b wr.heap.size kc ka kl Fk E _ (hCk.aR hbx) ⟨ag (o:=0) hblk rfl,ag (o:=1) hblk rfl,ag (o:=2) hblk rfl,ag (o:=3) hblk rfl,ag (o:=4) hblk rfl⟩ (fun i=>hCk.box _ _ i) (aq hbx hKk.c) (aq hbx hKk.a) (aq hbx hKk.l) ⟨hKk.nc.1,by have:=ab hKk.c;simp only at this;omega,hKk.nc.2⟩ ⟨hKk.na.aR hbx,by have:=hKk.na.lt;omega⟩ ⟨hKk.nl.1,by have:=ab hKk.l;simp only at this;omega,hKk.nl.2⟩ Be (by simp only[CS.room,CS.len];omega))
        have HK:=ae (And.intro hsk2 (And.intro hqk (And.intro hst (And.intro hlk (And.intro hKk (And.intro hbx (And.intro hOk hLk)))))))
        have HLK:=ae hlkl
        clear hCk hsk2 hqk hst hlk hKk hblk hbx hOk hLk hlkl
        go_wp2_with fail
        refine(aa HCL).mono ?_
        have hlkl:=aa HLK
        rintro e w4 ⟨rfl,F4,hC4,hp4v,hok4,ha4,hs4⟩
        obtain⟨hsk2,hqk,hst,hlk,hKk,hbx,hOk,hLk⟩:=aa HK
        obtain⟨f,hfv⟩:∃ f,f=((CS.rd qk).bB st.2 last dQ).2:=⟨_,rfl⟩
        rw[← hfv] at hp4v hok4 ha4
        obtain⟨v0,v1,v2,v3,v4⟩:=hp4v
        have hs5:ar wr w4 Fk F4 (fun k j=>(k=wr.heap.size∧0≤j)∨(k=ka∧j=0)):=(ar.bh hbx Fk _).trans hs4 (fun k j _ h=>h.imp (fun h=>⟨h.1,by omega⟩) id)
        have hszw:=hsk2.size
        have hszr:=hs5.size
        have haw:=(aa H).2.2.1.na.lt
        have hO4:fH w4.drew w.heap.size x lk F4:=by
          have h1:=hOk.aP hs5 (fun k j hb hk h=>by omega)
          exact⟨h1.nF,av h1.row (fun _ _=>rfl),h1.ok⟩
        obtain⟨xo,xc,rfl⟩:=dS hOk.row
        obtain⟨ao',cap',w6,hr6,hO6,hf6⟩:=hO4.app f hok4 (by show w.heap.size≤w4.heap.size;omega) (fun k hk=>hC4.lt k hk) (by omega)
        have h0w:w4.cell? ⟨cb,1,none⟩=some (.pointer (some ⟨b,0,none⟩)):=by
          obtain⟨s4,e4'⟩:=CS.jO qk st.2 last dQ
          have h9:=hC4.c1
          rw[e4'] at h9
          exact h9
        have hp4:w4.cell? ⟨g,i,none⟩=some (.slice xo lk.length xc):=(hs5.oth g i hlg hLk.nF (fun h=>by rcases h with h|h;omega;exact hga.1 h.1)).trans hxk
        have fz4:w4.frozen? ⟨g,i,none⟩=false:=(hs5.fz g i hlg hLk.nF).trans hLk.fz
        have hlg4:=ab hp4
        have hxlo:∀ k,(Value.slice xo lk.length xc).ownBlock=some k→w.heap.size≤k:=fun k hk=>(hOk.row.lt k hk).1
        have hp6:w6.cell? ⟨g,i,none⟩=some (.slice xo lk.length xc):=(hf6.cell (p:=⟨g,i,none⟩) hlg4 (fun h=>by have:=hxlo g h;omega)).trans hp4
        have fz6:w6.frozen? ⟨g,i,none⟩=false:=(hf6.frozen (p:=⟨g,i,none⟩) hlg4 (fun h=>by have:=hxlo g h;omega)).trans fz4
        have hf46:Fr (fun k=>(Value.slice xo lk.length xc).ownBlock=some k) w4 w6:=⟨hf6.os,hf6.tape,hf6.output,hf6.size,hf6.block⟩
        have hgF4:¬ F4 g:=hs5.nF hlg hLk.nF
        have hsW:ar w (w6.setCell ⟨g,i,none⟩ (.slice ao' (lk.length+1) cap')) F F4 (fun k j=>(k=g∧j=i)∨(k=ka∧j=0)):=((hsk2.trans hs5 (fun k j hk h=>h.elim (fun h=>by omega) .inr)).grow hf46 hxlo).trans (ar.set g i _) (fun _ _ _ h=>.inl h)
        have hcbw:=ab (aa H).1.c0
        have hglo:=(aa H).2.1.lo
        have hgnc:=(aa H).2.1.nc
        have hC7:Cd (w6.setCell ⟨g,i,none⟩ (.slice ao' (lk.length+1) cap')) cb b F4 ((CS.rd qk).bB st.2 last dQ).1 E:=
          (hC4.fr hf46 (fun kk hk hS=>hO4.nF kk hS hk) (fun hS=>by have:=hxlo cb hS;simp only at hcbw;omega) (fun kk hS=>by have:=hxlo kk hS;omega)).fr ((Fr.refl (fun kk=>kk=g) _).setCell (.inl rfl) _) (fun kk hk e=>hgF4 (e ▸ hk)) (fun e=>hgnc e.symm) (fun kk e=>by rw[e];exact hglo)
        have hK0:=(aa H).2.2.1
        have hoth:∀ kk jj v,kk<w.heap.size→kk≠g→w4.cell? ⟨kk,jj,none⟩=some v→(w6.setCell ⟨g,i,none⟩ (.slice ao' (lk.length+1) cap')).cell? ⟨kk,jj,none⟩=some v:=fun kk jj v hkk hng hv =>
          (World.cell?_setCell_other _ _ _ _ (by intro e;injection e with e1 _ _;exact hng e1.symm)).trans ((hf46.cell (p:=⟨kk,jj,none⟩) (ab hv) (fun h=>by have:=hxlo kk h;omega)).trans hv)
        have hK4:vZ w4 cb kc ka kl F4 f.name last:=hKk.aP hs5 (fun j=>⟨fun h=>by
            have h9:=ab hKk.c
            simp only at h9
            rcases h with h|h
            · omega
            · exact hKk.nc.2 h.1,fun h=>by
            have h9:=ab hKk.l
            simp only at h9
            rcases h with h|h
            · omega
            · exact hKk.nl.2 h.1⟩) ha4
        have hA7:Loc (w6.setCell ⟨g,i,none⟩ (.slice ao' (lk.length+1) cap')) cb F4 ka 0:=⟨(hsW.fz ka 0 hK0.na.lt hK0.na.nF).trans hK0.na.fz,Nat.lt_of_lt_of_le hK0.na.lt hsW.size,hK4.na.nF,hK0.na.nc,hK0.na.lo⟩
        have hK7:vZ (w6.setCell ⟨g,i,none⟩ (.slice ao' (lk.length+1) cap')) cb kc ka kl F4 f.name last:=⟨hoth kc 0 _ (ab hK0.c) hga.2.1 hK4.c,hoth ka 0 _ hK0.na.lt (Ne.symm hga.1) hK4.a,hoth kl 0 _ (ab hK0.l) hga.2.2 hK4.l,hK4.nc,hK4.nl,hA7⟩
        have hO7:fH (w6.setCell ⟨g,i,none⟩ (.slice ao' (lk.length+1) cap')) w.heap.size (.slice ao' (lk.length+1) cap') (lk++[f]) F4:=hO6.aP (ar.set g i _) (fun kk j hb _ h=>by omega)
        have hc7:(w6.setCell ⟨g,i,none⟩ (.slice ao' (lk.length+1) cap')).cell? ⟨g,i,none⟩=some (.slice ao' (lk.length+1) cap'):=World.cell?_setCell_same _ _ _ hp6
        have e1:(fC (aU last) dQ (k+1) (c1,ahead)).1.1=((CS.rd qk).bB st.2 last dQ).1:=by
          show((fC (aU last) dQ k (c1,ahead)).1.1.bB (fC (aU last) dQ k (c1,ahead)).1.2 last dQ).1=_
          rw[← hst,hqk]
        have e2:(fC (aU last) dQ (k+1) (c1,ahead)).1.2=f.name:=by
          show((fC (aU last) dQ k (c1,ahead)).1.1.bB (fC (aU last) dQ k (c1,ahead)).1.2 last dQ).2.name=_
          rw[← hst,hqk,hfv]
        have e3:(fC (aU last) dQ (k+1) (c1,ahead)).2=lk++[f]:=by
          show(fC (aU last) dQ k (c1,ahead)).2++[((fC (aU last) dQ k (c1,ahead)).1.1.bB (fC (aU last) dQ k (c1,ahead)).1.2 last dQ).2]=_
          rw[← hst,← hlk,hqk,hfv]
        have HFIN:Hid (∀ V,V=w6.setCell ⟨g,i,none⟩ (.slice ao' (lk.length+1) cap')→Cd V cb b F4 (fC (aU last) dQ (k+1) (c1,ahead)).1.1 E∧(∃ q',(fC (aU last) dQ (k+1) (c1,ahead)).1.1 = .rd q')∧vZ V cb kc ka kl F4 (fC (aU last) dQ (k+1) (c1,ahead)).1.2 last∧V.cell? ⟨g,i,none⟩=some (.slice ao' (lk.length+1) cap')∧fH V w.heap.size (.slice ao' (lk.length+1) cap') (fC (aU last) dQ (k+1) (c1,ahead)).2 F4∧ar w V F F4 (fun k j=>(k=g∧j=i)∨(k=ka∧j=0))):=by
          rintro V rfl
          rw[e1,e2,e3]
          exact⟨hC7,CS.jO qk _ _ _,hK7,hc7,hO7,hsW⟩
        have HR6:=ae hr6
        have hlv4:=ab v0
        clear hsW hC7 hO7 hK7 hK4 hK0 hA7 hoth hc7 e1 e2 e3 hgF4 hxlo hr6 hO6 hf6 hf46 hC4 hs5 hs4 hO4 hOk hst hlk hKk hbx hsk2 hqk hLk ha4 hok4 hfv HK HCL hszw hszr haw hcbw hglo hgnc hxk h0r h1r hlkl
        go_wp2_with fail
        go_region_law (refine gB rfl (.tmp 56) (.tmp 58) 28 28 rfl _ _ _ (by simp[Act.eval]) (by simp[Act.eval]) (aa HR6) ?_)
        all_goals
          go_wp2_with fail
          obtain⟨z1,z2,z3,z4,z5,z6⟩:=(aa HFIN) _ rfl
          exact⟨⟨k+1,F4,_,by omega,by go_num,z1,z2,z3,z4,z5,z6⟩,by simp[intOf];omega⟩
      · have hkN:k=N:=by omega
        have HK:=ae (And.intro hCk (And.intro hsk2 (And.intro hOk hxk)))
        clear hCk hqk hsk2 hOk hKk
        first
          | (have hlt':¬ (k:Int)<(n:Int):=by have:=aa HM;omega
             go_wp2_with fail)
          | (have hlt':¬ (k:Int)<32:=by have:=aa HM;omega
             go_wp2_with fail)
        go_end0
        rw[hkN] at HK
        exact⟨rfl,Fk,(aa HK).1,x,(aa HK).2.2.2,(aa HK).2.2.1,(aa HK).2.1⟩
def CS.cF (c:CS) (last:Nat) (rs:List (Int→Nat)) (l:List cj):CS × List cj:=match c with
 | .wr s=>((mn (aU last) (((CS.wr s).cv ak 32 (dU 32 rs) l.length).1,⟨#[]⟩) (l.take (min l.length 32))).1,l)
 | .rd q=>((fC (aU last) dQ (min ((q.named ak).go 7 32).2.1 32) (((CS.rd q).cv ak 32 (dU 32 rs) 0).1,⟨#[]⟩)).1.1,(fC (aU last) dQ (min ((q.named ak).go 7 32).2.1 32) (((CS.rd q).cv ak 32 (dU 32 rs) 0).1,⟨#[]⟩)).2)
structure jF (w:World) (c:CS) (x:Value) (l:List cj) (F:Nat→Prop) (g:Nat):Prop where
 wr:∀ s,c = .wr s→∃ xo xc,x = .slice xo l.length xc∧B8 w xo xc l F∧∀ g' o,xo=some ⟨g',o,none⟩→l≠[]→g'≠g
 rd:∀ q,c = .rd q→x = .slice none 0 0∧l=[]
 n:l.length<9223372036854775808
theorem jF.aP {w w':World} {c c':CS} {x:Value} {l:List cj} {F F':Nat→Prop} {P:Nat→Nat→Prop} {g:Nat} (h:jF w c x l F g) (hs:ar w w' F F' P) (hP:∀ k i,k<w.heap.size→P k i→k=g) (hw:∀ s,c' = .wr s→∃ s',c = .wr s') (hr:∀ q,c' = .rd q→∃ q',c = .rd q'):jF w' c' x l F' g:=by
 refine⟨fun s hs'=>?_,fun q hq=>?_,h.n⟩
 ·obtain⟨s',e⟩:=hw s hs'
  obtain⟨xo,xc,e1,e2,e3⟩:=h.wr s' e
  refine⟨xo,xc,e1,⟨e2.cap,fun j f hf=>?_⟩,e3⟩
  obtain⟨h0,g',o,h1,h2,h3,h4,h5,h6,h7⟩:=e2.el j f hf
  have hlt:g'<w.heap.size:=ab h3
  have hne:g'≠g:=e3 g' o h1 (by rintro rfl;simp at hf)
  have hp:∀ i,¬ P g' i:=fun i hp=>hne (hP g' i hlt hp)
  exact⟨h0,g',o,h1,hs.nF hlt h2,(hs.oth g' _ hlt h2 (hp _)).trans h3,(hs.oth g' _ hlt h2 (hp _)).trans h4,(hs.oth g' _ hlt h2 (hp _)).trans h5,(hs.oth g' _ hlt h2 (hp _)).trans h6,(hs.oth g' _ hlt h2 (hp _)).trans h7⟩
 ·obtain⟨q',e⟩:=hr q hq
  exact h.rd q' e
structure kg (w w':World) (c:CS) (x x':Value) (l':List cj) (F':Nat→Prop):Prop where
 wr:∀ s,c = .wr s→x'=x
 rd:∀ q,c = .rd q→fH w' w.heap.size x' l' F'
theorem lQ (c:CS) (last:Nat) (rs:List (Int→Nat)) (ro:Option Addr) (rc:Nat) (x:Value) (l:List cj) (cb b g i:Nat) (F:Nat→Prop) (E:Nat→Addr) (w:World) (h:Cd w cb b F c E) (hp:w.cell? ⟨g,i,none⟩=some x) (hX:jF w c x l F g) (hL:Loc w cb F g i) (hR:∃ K,dC dm w K (.slice ro rs.length rc) E rs∧∀ k,K k→¬ F k) (hrs:rs.length<1000) (hroom:c.room 200) :
  Calls Tryz.prog 133 #[.pointer (some ⟨cb,0,none⟩),.pointer (some ⟨g,i,none⟩),.int .u8 (last:Nat),.slice ro rs.length rc] w fun e w'=>e = .returned (.tuple #[])∧∃ F' x',Cd w' cb b F' (c.cF last rs l).1 E∧w'.cell? ⟨g,i,none⟩=some x'∧kg w w' c x x' (c.cF last rs l).2 F'∧ar w w' F F' (fun k j=>k=g∧j=i):=by
 have hmf:=mf
 obtain⟨w3,hw3⟩:∃ w3,w3=((w.alloc (.cells #[.pointer (some ⟨cb,0,none⟩)] 138)).alloc (.cells #[.int .u8 (last:Nat)] 5)).alloc (.cells #[.string ⟨#[]⟩] 9):=⟨_,rfl⟩
 have hf3:Fr (fun _=>False) w w3:=by rw[hw3];exact(((Fr.refl _ _).alloc _).alloc _).alloc _
 have hsz:w3.heap.size=w.heap.size+1+1+1:=by rw[hw3];simp
 have hcbl:=ab h.c0
 have hcl:=h.cl
 have hgl:=hL.lt
 have b0:w3.heap[w.heap.size]?=some (.cells #[.pointer (some ⟨cb,0,none⟩)] 138):=by
  rw[hw3,Below.heap_alloc _ _ _ (by simp;omega),Below.heap_alloc _ _ _ (by simp)]
  exact heap_alloc_new _ _
 have b1:w3.heap[w.heap.size+1]?=some (.cells #[.int .u8 (last:Nat)] 5):=by
  rw[hw3,Below.heap_alloc _ _ _ (by simp)]
  have:=heap_alloc_new (w.alloc (.cells #[.pointer (some ⟨cb,0,none⟩)] 138)) (.cells #[.int .u8 (last:Nat)] 5)
  simpa using this
 have b2:w3.heap[w.heap.size+1+1]?=some (.cells #[.string ⟨#[]⟩] 9):=by
  rw[hw3]
  have:=heap_alloc_new ((w.alloc (.cells #[.pointer (some ⟨cb,0,none⟩)] 138)).alloc (.cells #[.int .u8 (last:Nat)] 5)) (.cells #[.string ⟨#[]⟩] 9)
  simpa using this
 have hnew:∀ k,w.heap.size≤k→¬ F k:=fun k hk hx=>by have:=h.lt k hx;omega
 have hK3:vZ w3 cb w.heap.size (w.heap.size+1+1) (w.heap.size+1) F ⟨#[]⟩ last:=⟨ag b0 rfl,ag b2 rfl,ag b1 rfl,⟨hnew _ (by omega),by omega⟩,⟨hnew _ (by omega),by omega⟩,⟨by simp[World.frozen?,b2],by omega,hnew _ (by omega),by simp only at hcbl;omega,by simp only at hcbl;omega⟩⟩
 have hR3:∃ K,dC dm w3 K (.slice ro rs.length rc) E rs∧∀ k,K k→¬ F k:=by
  obtain⟨K,h1,h2⟩:=hR
  exact⟨K,h1.fr hf3 (fun _ _ h=>h),h2⟩
 have HC:Hid (Calls Tryz.prog 152 #[.pointer (some ⟨cb,0,none⟩),.string ak,.pointer (some ⟨g,i,none⟩),.int .i64 32,.func (.func 153) #[] #[.pointer (some ⟨w.heap.size,0,none⟩),.pointer (some ⟨w.heap.size+1+1,0,none⟩),.pointer (some ⟨w.heap.size+1,0,none⟩)],.slice ro rs.length rc] w3 fun e w'=>e = .returned (.tuple #[])∧∃ F' x',Cd w' cb b F' (c.cF last rs l).1 E∧w'.cell? ⟨g,i,none⟩=some x'∧kg w w' c x x' (c.cF last rs l).2 F'∧ar w w' F F' (fun k j=>k=g∧j=i)):=by
  cases c with
  | wr s =>
   obtain⟨xo,xc,rfl,hV,hne⟩:=hX.wr s rfl
   have hV3:=hV.aP (ar.bh hf3 F (fun _ _=>False)) (fun _ _ _ _ _ h=>h)
   refine(oh s rs ro rc last cb b g i w.heap.size (w.heap.size+1+1) (w.heap.size+1) ⟨#[]⟩ F E xo xc l w3 (h.aR hf3) hX.n (aq hf3 hp) (hL.aR hf3) hV3 (fun g' o e hl=>?_) (by omega) hK3 hR3 hrs hroom).mono ?_
   ·obtain⟨f,hf⟩:∃ f,l[0]?=some f:=by
     cases l with
     | nil=>exact absurd rfl hl
     | cons a r=>exact⟨a,rfl⟩
    obtain⟨_,g2,o2,e2,_,c0,_⟩:=hV.el 0 f hf
    rw[e] at e2
    cases e2
    have:=ab c0
    simp only at this
    omega
   ·rintro e w' ⟨rfl,F',hC,hs⟩
    have hs':ar w w' F F' (fun k j=>k=g∧j=i):=(ar.bh hf3 F _).trans (hs.mono (P':=fun k j=>k=w.heap.size+1+1∧j=0) (fun _ _ _ h=>h)) (fun k j hk h=>by omega)
    exact⟨rfl,F',_,hC,(hs.oth g i (by omega) hL.nF (fun h=>by omega)).trans (aq hf3 hp),⟨fun _ _=>rfl,fun q e=>by cases e⟩,hs'⟩
  | rd q =>
   obtain⟨rfl,rfl⟩:=hX.rd q rfl
   refine(pv q rs ro rc last cb b g i w.heap.size (w.heap.size+1+1) (w.heap.size+1) ⟨#[]⟩ F E w3 (h.aR hf3) (aq hf3 hp) (hL.aR hf3) ⟨by omega,by omega,by omega⟩ hK3 hR3 hrs).mono ?_
   rintro e w' ⟨rfl,F',hC,x',hx',hO,hs⟩
   have hs':ar w w' F F' (fun k j=>k=g∧j=i):=(ar.bh hf3 F _).trans hs (fun k j hk h=>h.elim id (fun h=>by omega))
   exact⟨rfl,F',x',hC,hx',⟨fun s e=>(by cases e),fun _ _=>⟨hO.nF,aH hO.row (by omega),hO.ok⟩⟩,hs'⟩
 have hk0:=hK3.c
 clear h hp hX hL hR hroom hf3 hsz hcbl hcl b0 b1 b2 hnew hK3 hR3 hgl
 go_enter Tryz.func133,Tryz.ntmps133
 rw[hw3] at hk0
 go_wp2_with fail
 rw[← hw3]
 refine(aa HC).mono ?_
 rintro e w' ⟨rfl,hr⟩
 have HR:=ae hr
 clear hr hk0 hw3 HC
 go_wp2_with fail
 go_end0
 exact⟨rfl,aa HR⟩
variable {L:List Nat}
theorem CS.again.w {c d:CS} (h:c.again d L):∃ s,d = .wr s:=by obtain⟨_,s,_,e,_,_⟩:=h;exact⟨s,e⟩
def CS.sm (c c':CS):Prop:=(∀ s,c' = .wr s→∃ s',c = .wr s')∧(∀ q,c' = .rd q→∃ q',c = .rd q')
theorem CS.o8 (c:CS):c.sm c:=⟨fun s h=>⟨s,h⟩,fun q h=>⟨q,h⟩⟩
theorem CS.ax {a b c:CS} (h:a.sm b) (k:b.sm c):a.sm c:=⟨fun s e=>by obtain⟨s',e'⟩:=k.1 s e;exact h.1 s' e',fun q e=>by obtain⟨q',e'⟩:=k.2 q e;exact h.2 q' e'⟩
theorem CS.nW (s s':Wq):(CS.wr s).sm (.wr s'):=⟨fun _ _=>⟨s,rfl⟩,fun _ e=>(by cases e)⟩
theorem CS.nR (q q':Q):(CS.rd q).sm (.rd q'):=⟨fun _ e=>(by cases e),fun _ _=>⟨q,rfl⟩⟩
theorem CS.dL (c:CS) (nm:ByteArray) (rs:List (Nat→Nat)) (v:Nat):c.sm (c.fe nm rs v).1:=by
 cases c with
 | wr s=>exact CS.nW _ _
 | rd q=>exact CS.nR _ _
theorem CS.bo (c:CS) (nm:ByteArray) (rs:List (Nat→Nat)) (v:Nat):c.sm (c.bL nm rs v).1:=by
 cases c with
 | wr s=>exact CS.nW _ _
 | rd q=>exact CS.nR _ _
theorem CS.Az (c:CS) (nm:ByteArray) (m:Int) (rs:List (ByteArray→Nat)) (v:ByteArray):c.sm (c.dG nm m rs v).1:=by
 cases c with
 | wr s=>exact CS.nW _ _
 | rd q=>exact CS.nR _ _
theorem CS.gO (c:CS) (v:Nat × Nat):c.sm (c.ky v).1:=CS.ax (c.bo cV [] v.1) (CS.bo _ _ _ _)
theorem pT (last:Nat):∀ (xs:List cj) (s:CS × ByteArray),(∃ s',s.1 = .wr s')→∃ s',(mn (aU last) s xs).1 = .wr s'
 | [],s,h=>h
 | x::xs,s,⟨s',h⟩=>pT last xs _ (by
  show ∃ s'',(s.1.bB s.2 last x).1 = .wr s''
  rw[h]
  exact CS.jJ _ _ _ _)
theorem lZ (last:Nat) (s:CS × ByteArray) (h:∃ q,s.1 = .rd q):∀ n,∃ q,(fC (aU last) dQ n s).1.1 = .rd q
 | 0=>h
 | n+1=>by
  obtain⟨q,hq⟩:=lZ last s h n
  show ∃ q',((fC (aU last) dQ n s).1.1.bB (fC (aU last) dQ n s).1.2 last dQ).1 = .rd q'
  rw[hq]
  exact CS.jO _ _ _ _
theorem CS.eQ (c:CS) (last:Nat) (rs:List (Int→Nat)) (l:List cj):c.sm (c.cF last rs l).1:=by
 cases c with
 | wr s =>
  obtain⟨s',e⟩:=pT last (l.take (min l.length 32)) (((CS.wr s).cv ak 32 (dU 32 rs) l.length).1,⟨#[]⟩) ⟨_,rfl⟩
  show(CS.wr s).sm (mn (aU last) (((CS.wr s).cv ak 32 (dU 32 rs) l.length).1,⟨#[]⟩) (l.take (min l.length 32))).1
  rw[e]
  exact CS.nW _ _
 | rd q =>
  obtain⟨q',e⟩:=lZ last (((CS.rd q).cv ak 32 (dU 32 rs) 0).1,⟨#[]⟩) ⟨_,rfl⟩ (min ((q.named ak).go 7 32).2.1 32)
  show(CS.rd q).sm (fC (aU last) dQ (min ((q.named ak).go 7 32).2.1 32) (((CS.rd q).cv ak 32 (dU 32 rs) 0).1,⟨#[]⟩)).1.1
  rw[e]
  exact CS.nR _ _
theorem qR (last:Nat):∀ (xs:List cj) (s:CS × ByteArray) (n:Nat),s.1.room (n+4 * xs.length)→(mn (aU last) s xs).1.room n
 | [],s,n,h=>by
  show s.1.room n
  simpa using h
 | x::xs,s,n,h=>qR last xs _ n (CS.kp (n:=n+4 * xs.length) (CS.room_le h (by simp;omega)) s.2 last x)
theorem CS.dN {c:CS} {n:Nat} (h:c.room (n+129)) (last:Nat) (rs:List (Int→Nat)) (l:List cj):(c.cF last rs l).1.room n:=by
 cases c with
 | wr s =>
  have h1:=CS.gU (c:=.wr s) (n:=n+128) h ak 32 (dU 32 rs) l.length
  exact qR last _ _ n (CS.room_le h1 (by simp;omega))
 | rd q =>
  obtain⟨q',e⟩:=lZ last (((CS.rd q).cv ak 32 (dU 32 rs) 0).1,⟨#[]⟩) ⟨_,rfl⟩ (min ((q.named ak).go 7 32).2.1 32)
  show(fC (aU last) dQ (min ((q.named ak).go 7 32).2.1 32) (((CS.rd q).cv ak 32 (dU 32 rs) 0).1,⟨#[]⟩)).1.1.room n
  rw[e]
  simp only[CS.room,CS.len] at *
  omega
structure dv where
 cl:Nat
 nu:Nat
 ac:Nat
 op:Nat
 re:Nat
 ve:Nat
 wa:Nat
 ow:Nat
 fs:List cj
 rs:ByteArray
structure dv.ok (v:dv):Prop where
 cl:v.cl<4294967296
 nu:v.nu<4294967296
 ac:v.ac<4294967296
 op:v.op<256
 re:v.re<4294967296
 ve:v.ve<4294967296
 wa:v.wa<4294967296
 ow:v.ow<4294967296
 rs:v.rs.size<9223372036854775808
structure ou (w:World) (g o:Nat) (v:dv) (x:Value):Prop where
 c0:w.cell? ⟨g,o+0,none⟩=some (.int .u32 (v.cl:Nat))
 c1:w.cell? ⟨g,o+1,none⟩=some (.int .u32 (v.nu:Nat))
 c2:w.cell? ⟨g,o+2,none⟩=some (.int .u32 (v.ac:Nat))
 c3:w.cell? ⟨g,o+3,none⟩=some (.int .u8 (v.op:Nat))
 c4:w.cell? ⟨g,o+4,none⟩=some (.int .u32 (v.re:Nat))
 c5:w.cell? ⟨g,o+5,none⟩=some (.int .u32 (v.ve:Nat))
 c6:w.cell? ⟨g,o+6,none⟩=some (.int .u32 (v.wa:Nat))
 c7:w.cell? ⟨g,o+7,none⟩=some (.int .u32 (v.ow:Nat))
 c8:w.cell? ⟨g,o+8,none⟩=some x
 c9:w.cell? ⟨g,o+9,none⟩=some (.string v.rs)
structure ff (w0 w:World) (cb b g o:Nat) (F0 F:Nat→Prop) (c:CS) (E:Nat→Addr) (v:dv) (x:Value):Prop where
 C:Cd w cb b F c E
 r:ou w g o v x
 s:ar w0 w F0 F (aC g o 10)
 L:∀ i,Loc w cb F g i
theorem ff.aR {w0 w w':World} {cb b g o:Nat} {F0 F:Nat→Prop} {c:CS} {E:Nat→Addr} {v:dv} {x:Value} (h:ff w0 w cb b g o F0 F c E v x) (hf:Fr (fun _=>False) w w'):ff w0 w' cb b g o F0 F c E v x:=
 ⟨h.C.aR hf,⟨aq hf h.r.c0,aq hf h.r.c1,aq hf h.r.c2,aq hf h.r.c3,aq hf h.r.c4,aq hf h.r.c5,aq hf h.r.c6,aq hf h.r.c7,aq hf h.r.c8,aq hf h.r.c9⟩,h.s.trans (ar.bh hf F (fun _ _=>False)) (fun _ _ _ h=>h.elim),fun i=>(h.L i).aR hf⟩
theorem ff.s0 {w0 w w':World} {cb b g o:Nat} {F0 F F':Nat→Prop} {c c':CS} {E:Nat→Addr} {v:dv} {x:Value} (h:ff w0 w cb b g o F0 F c E v x) (n:Nat) (hC:Cd w' cb b F' c' E) (hc:w'.cell? ⟨g,o+0,none⟩=some (.int .u32 (n:Nat))) (hs:ar w w' F F' (fun k j=>k=g∧j=o+0)):ff w0 w' cb b g o F0 F' c' E { v with cl:=n } x:=
 ⟨hC,⟨hc,(hs.oth g (o+1) (h.L 0).lt (h.L 0).nF (fun e=>by omega)).trans h.r.c1,(hs.oth g (o+2) (h.L 0).lt (h.L 0).nF (fun e=>by omega)).trans h.r.c2,(hs.oth g (o+3) (h.L 0).lt (h.L 0).nF (fun e=>by omega)).trans h.r.c3,(hs.oth g (o+4) (h.L 0).lt (h.L 0).nF (fun e=>by omega)).trans h.r.c4,(hs.oth g (o+5) (h.L 0).lt (h.L 0).nF (fun e=>by omega)).trans h.r.c5,(hs.oth g (o+6) (h.L 0).lt (h.L 0).nF (fun e=>by omega)).trans h.r.c6,(hs.oth g (o+7) (h.L 0).lt (h.L 0).nF (fun e=>by omega)).trans h.r.c7,(hs.oth g (o+8) (h.L 0).lt (h.L 0).nF (fun e=>by omega)).trans h.r.c8,(hs.oth g (o+9) (h.L 0).lt (h.L 0).nF (fun e=>by omega)).trans h.r.c9⟩,h.s.trans hs (fun k j _ e=>⟨e.1,by omega,by omega⟩),fun i=>(h.L i).aP hs⟩
theorem ff.s1 {w0 w w':World} {cb b g o:Nat} {F0 F F':Nat→Prop} {c c':CS} {E:Nat→Addr} {v:dv} {x:Value} (h:ff w0 w cb b g o F0 F c E v x) (n:Nat) (hC:Cd w' cb b F' c' E) (hc:w'.cell? ⟨g,o+1,none⟩=some (.int .u32 (n:Nat))) (hs:ar w w' F F' (fun k j=>k=g∧j=o+1)):ff w0 w' cb b g o F0 F' c' E { v with nu:=n } x:=
 ⟨hC,⟨(hs.oth g (o+0) (h.L 0).lt (h.L 0).nF (fun e=>by omega)).trans h.r.c0,hc,(hs.oth g (o+2) (h.L 0).lt (h.L 0).nF (fun e=>by omega)).trans h.r.c2,(hs.oth g (o+3) (h.L 0).lt (h.L 0).nF (fun e=>by omega)).trans h.r.c3,(hs.oth g (o+4) (h.L 0).lt (h.L 0).nF (fun e=>by omega)).trans h.r.c4,(hs.oth g (o+5) (h.L 0).lt (h.L 0).nF (fun e=>by omega)).trans h.r.c5,(hs.oth g (o+6) (h.L 0).lt (h.L 0).nF (fun e=>by omega)).trans h.r.c6,(hs.oth g (o+7) (h.L 0).lt (h.L 0).nF (fun e=>by omega)).trans h.r.c7,(hs.oth g (o+8) (h.L 0).lt (h.L 0).nF (fun e=>by omega)).trans h.r.c8,(hs.oth g (o+9) (h.L 0).lt (h.L 0).nF (fun e=>by omega)).trans h.r.c9⟩,h.s.trans hs (fun k j _ e=>⟨e.1,by omega,by omega⟩),fun i=>(h.L i).aP hs⟩
theorem ff.s2 {w0 w w':World} {cb b g o:Nat} {F0 F F':Nat→Prop} {c c':CS} {E:Nat→Addr} {v:dv} {x:Value} (h:ff w0 w cb b g o F0 F c E v x) (n:Nat) (hC:Cd w' cb b F' c' E) (hc:w'.cell? ⟨g,o+2,none⟩=some (.int .u32 (n:Nat))) (hs:ar w w' F F' (fun k j=>k=g∧j=o+2)):ff w0 w' cb b g o F0 F' c' E { v with ac:=n } x:=
 ⟨hC,⟨(hs.oth g (o+0) (h.L 0).lt (h.L 0).nF (fun e=>by omega)).trans h.r.c0,(hs.oth g (o+1) (h.L 0).lt (h.L 0).nF (fun e=>by omega)).trans h.r.c1,hc,(hs.oth g (o+3) (h.L 0).lt (h.L 0).nF (fun e=>by omega)).trans h.r.c3,(hs.oth g (o+4) (h.L 0).lt (h.L 0).nF (fun e=>by omega)).trans h.r.c4,(hs.oth g (o+5) (h.L 0).lt (h.L 0).nF (fun e=>by omega)).trans h.r.c5,(hs.oth g (o+6) (h.L 0).lt (h.L 0).nF (fun e=>by omega)).trans h.r.c6,(hs.oth g (o+7) (h.L 0).lt (h.L 0).nF (fun e=>by omega)).trans h.r.c7,(hs.oth g (o+8) (h.L 0).lt (h.L 0).nF (fun e=>by omega)).trans h.r.c8,(hs.oth g (o+9) (h.L 0).lt (h.L 0).nF (fun e=>by omega)).trans h.r.c9⟩,h.s.trans hs (fun k j _ e=>⟨e.1,by omega,by omega⟩),fun i=>(h.L i).aP hs⟩
theorem ff.s3 {w0 w w':World} {cb b g o:Nat} {F0 F F':Nat→Prop} {c c':CS} {E:Nat→Addr} {v:dv} {x:Value} (h:ff w0 w cb b g o F0 F c E v x) (n:Nat) (hC:Cd w' cb b F' c' E) (hc:w'.cell? ⟨g,o+3,none⟩=some (.int .u8 (n:Nat))) (hs:ar w w' F F' (fun k j=>k=g∧j=o+3)):ff w0 w' cb b g o F0 F' c' E { v with op:=n } x:=
 ⟨hC,⟨(hs.oth g (o+0) (h.L 0).lt (h.L 0).nF (fun e=>by omega)).trans h.r.c0,(hs.oth g (o+1) (h.L 0).lt (h.L 0).nF (fun e=>by omega)).trans h.r.c1,(hs.oth g (o+2) (h.L 0).lt (h.L 0).nF (fun e=>by omega)).trans h.r.c2,hc,(hs.oth g (o+4) (h.L 0).lt (h.L 0).nF (fun e=>by omega)).trans h.r.c4,(hs.oth g (o+5) (h.L 0).lt (h.L 0).nF (fun e=>by omega)).trans h.r.c5,(hs.oth g (o+6) (h.L 0).lt (h.L 0).nF (fun e=>by omega)).trans h.r.c6,(hs.oth g (o+7) (h.L 0).lt (h.L 0).nF (fun e=>by omega)).trans h.r.c7,(hs.oth g (o+8) (h.L 0).lt (h.L 0).nF (fun e=>by omega)).trans h.r.c8,(hs.oth g (o+9) (h.L 0).lt (h.L 0).nF (fun e=>by omega)).trans h.r.c9⟩,h.s.trans hs (fun k j _ e=>⟨e.1,by omega,by omega⟩),fun i=>(h.L i).aP hs⟩
theorem ff.s4 {w0 w w':World} {cb b g o:Nat} {F0 F F':Nat→Prop} {c c':CS} {E:Nat→Addr} {v:dv} {x:Value} (h:ff w0 w cb b g o F0 F c E v x) (n:Nat) (hC:Cd w' cb b F' c' E) (hc:w'.cell? ⟨g,o+4,none⟩=some (.int .u32 (n:Nat))) (hs:ar w w' F F' (fun k j=>k=g∧j=o+4)):ff w0 w' cb b g o F0 F' c' E { v with re:=n } x:=
 ⟨hC,⟨(hs.oth g (o+0) (h.L 0).lt (h.L 0).nF (fun e=>by omega)).trans h.r.c0,(hs.oth g (o+1) (h.L 0).lt (h.L 0).nF (fun e=>by omega)).trans h.r.c1,(hs.oth g (o+2) (h.L 0).lt (h.L 0).nF (fun e=>by omega)).trans h.r.c2,(hs.oth g (o+3) (h.L 0).lt (h.L 0).nF (fun e=>by omega)).trans h.r.c3,hc,(hs.oth g (o+5) (h.L 0).lt (h.L 0).nF (fun e=>by omega)).trans h.r.c5,(hs.oth g (o+6) (h.L 0).lt (h.L 0).nF (fun e=>by omega)).trans h.r.c6,(hs.oth g (o+7) (h.L 0).lt (h.L 0).nF (fun e=>by omega)).trans h.r.c7,(hs.oth g (o+8) (h.L 0).lt (h.L 0).nF (fun e=>by omega)).trans h.r.c8,(hs.oth g (o+9) (h.L 0).lt (h.L 0).nF (fun e=>by omega)).trans h.r.c9⟩,h.s.trans hs (fun k j _ e=>⟨e.1,by omega,by omega⟩),fun i=>(h.L i).aP hs⟩
theorem ff.s5 {w0 w w':World} {cb b g o:Nat} {F0 F F':Nat→Prop} {c c':CS} {E:Nat→Addr} {v:dv} {x:Value} (h:ff w0 w cb b g o F0 F c E v x) (n:Nat) (hC:Cd w' cb b F' c' E) (hc:w'.cell? ⟨g,o+5,none⟩=some (.int .u32 (n:Nat))) (hs:ar w w' F F' (fun k j=>k=g∧j=o+5)):ff w0 w' cb b g o F0 F' c' E { v with ve:=n } x:=
 ⟨hC,⟨(hs.oth g (o+0) (h.L 0).lt (h.L 0).nF (fun e=>by omega)).trans h.r.c0,(hs.oth g (o+1) (h.L 0).lt (h.L 0).nF (fun e=>by omega)).trans h.r.c1,(hs.oth g (o+2) (h.L 0).lt (h.L 0).nF (fun e=>by omega)).trans h.r.c2,(hs.oth g (o+3) (h.L 0).lt (h.L 0).nF (fun e=>by omega)).trans h.r.c3,(hs.oth g (o+4) (h.L 0).lt (h.L 0).nF (fun e=>by omega)).trans h.r.c4,hc,(hs.oth g (o+6) (h.L 0).lt (h.L 0).nF (fun e=>by omega)).trans h.r.c6,(hs.oth g (o+7) (h.L 0).lt (h.L 0).nF (fun e=>by omega)).trans h.r.c7,(hs.oth g (o+8) (h.L 0).lt (h.L 0).nF (fun e=>by omega)).trans h.r.c8,(hs.oth g (o+9) (h.L 0).lt (h.L 0).nF (fun e=>by omega)).trans h.r.c9⟩,h.s.trans hs (fun k j _ e=>⟨e.1,by omega,by omega⟩),fun i=>(h.L i).aP hs⟩
theorem ff.s6 {w0 w w':World} {cb b g o:Nat} {F0 F F':Nat→Prop} {c c':CS} {E:Nat→Addr} {v:dv} {x:Value} (h:ff w0 w cb b g o F0 F c E v x) (n:Nat) (hC:Cd w' cb b F' c' E) (hc:w'.cell? ⟨g,o+6,none⟩=some (.int .u32 (n:Nat))) (hs:ar w w' F F' (fun k j=>k=g∧j=o+6)):ff w0 w' cb b g o F0 F' c' E { v with wa:=n } x:=
 ⟨hC,⟨(hs.oth g (o+0) (h.L 0).lt (h.L 0).nF (fun e=>by omega)).trans h.r.c0,(hs.oth g (o+1) (h.L 0).lt (h.L 0).nF (fun e=>by omega)).trans h.r.c1,(hs.oth g (o+2) (h.L 0).lt (h.L 0).nF (fun e=>by omega)).trans h.r.c2,(hs.oth g (o+3) (h.L 0).lt (h.L 0).nF (fun e=>by omega)).trans h.r.c3,(hs.oth g (o+4) (h.L 0).lt (h.L 0).nF (fun e=>by omega)).trans h.r.c4,(hs.oth g (o+5) (h.L 0).lt (h.L 0).nF (fun e=>by omega)).trans h.r.c5,hc,(hs.oth g (o+7) (h.L 0).lt (h.L 0).nF (fun e=>by omega)).trans h.r.c7,(hs.oth g (o+8) (h.L 0).lt (h.L 0).nF (fun e=>by omega)).trans h.r.c8,(hs.oth g (o+9) (h.L 0).lt (h.L 0).nF (fun e=>by omega)).trans h.r.c9⟩,h.s.trans hs (fun k j _ e=>⟨e.1,by omega,by omega⟩),fun i=>(h.L i).aP hs⟩
theorem ff.s7 {w0 w w':World} {cb b g o:Nat} {F0 F F':Nat→Prop} {c c':CS} {E:Nat→Addr} {v:dv} {x:Value} (h:ff w0 w cb b g o F0 F c E v x) (n:Nat) (hC:Cd w' cb b F' c' E) (hc:w'.cell? ⟨g,o+7,none⟩=some (.int .u32 (n:Nat))) (hs:ar w w' F F' (fun k j=>k=g∧j=o+7)):ff w0 w' cb b g o F0 F' c' E { v with ow:=n } x:=
 ⟨hC,⟨(hs.oth g (o+0) (h.L 0).lt (h.L 0).nF (fun e=>by omega)).trans h.r.c0,(hs.oth g (o+1) (h.L 0).lt (h.L 0).nF (fun e=>by omega)).trans h.r.c1,(hs.oth g (o+2) (h.L 0).lt (h.L 0).nF (fun e=>by omega)).trans h.r.c2,(hs.oth g (o+3) (h.L 0).lt (h.L 0).nF (fun e=>by omega)).trans h.r.c3,(hs.oth g (o+4) (h.L 0).lt (h.L 0).nF (fun e=>by omega)).trans h.r.c4,(hs.oth g (o+5) (h.L 0).lt (h.L 0).nF (fun e=>by omega)).trans h.r.c5,(hs.oth g (o+6) (h.L 0).lt (h.L 0).nF (fun e=>by omega)).trans h.r.c6,hc,(hs.oth g (o+8) (h.L 0).lt (h.L 0).nF (fun e=>by omega)).trans h.r.c8,(hs.oth g (o+9) (h.L 0).lt (h.L 0).nF (fun e=>by omega)).trans h.r.c9⟩,h.s.trans hs (fun k j _ e=>⟨e.1,by omega,by omega⟩),fun i=>(h.L i).aP hs⟩
theorem ff.s8 {w0 w w':World} {cb b g o:Nat} {F0 F F':Nat→Prop} {c c':CS} {E:Nat→Addr} {v:dv} {x:Value} (h:ff w0 w cb b g o F0 F c E v x) (y:Value) (hC:Cd w' cb b F' c' E) (hc:w'.cell? ⟨g,o+8,none⟩=some (y)) (hs:ar w w' F F' (fun k j=>k=g∧j=o+8)):ff w0 w' cb b g o F0 F' c' E v y:=
 ⟨hC,⟨(hs.oth g (o+0) (h.L 0).lt (h.L 0).nF (fun e=>by omega)).trans h.r.c0,(hs.oth g (o+1) (h.L 0).lt (h.L 0).nF (fun e=>by omega)).trans h.r.c1,(hs.oth g (o+2) (h.L 0).lt (h.L 0).nF (fun e=>by omega)).trans h.r.c2,(hs.oth g (o+3) (h.L 0).lt (h.L 0).nF (fun e=>by omega)).trans h.r.c3,(hs.oth g (o+4) (h.L 0).lt (h.L 0).nF (fun e=>by omega)).trans h.r.c4,(hs.oth g (o+5) (h.L 0).lt (h.L 0).nF (fun e=>by omega)).trans h.r.c5,(hs.oth g (o+6) (h.L 0).lt (h.L 0).nF (fun e=>by omega)).trans h.r.c6,(hs.oth g (o+7) (h.L 0).lt (h.L 0).nF (fun e=>by omega)).trans h.r.c7,hc,(hs.oth g (o+9) (h.L 0).lt (h.L 0).nF (fun e=>by omega)).trans h.r.c9⟩,h.s.trans hs (fun k j _ e=>⟨e.1,by omega,by omega⟩),fun i=>(h.L i).aP hs⟩
theorem ff.s9 {w0 w w':World} {cb b g o:Nat} {F0 F F':Nat→Prop} {c c':CS} {E:Nat→Addr} {v:dv} {x:Value} (h:ff w0 w cb b g o F0 F c E v x) (y:ByteArray) (hC:Cd w' cb b F' c' E) (hc:w'.cell? ⟨g,o+9,none⟩=some (.string y)) (hs:ar w w' F F' (fun k j=>k=g∧j=o+9)):ff w0 w' cb b g o F0 F' c' E { v with rs:=y } x:=
 ⟨hC,⟨(hs.oth g (o+0) (h.L 0).lt (h.L 0).nF (fun e=>by omega)).trans h.r.c0,(hs.oth g (o+1) (h.L 0).lt (h.L 0).nF (fun e=>by omega)).trans h.r.c1,(hs.oth g (o+2) (h.L 0).lt (h.L 0).nF (fun e=>by omega)).trans h.r.c2,(hs.oth g (o+3) (h.L 0).lt (h.L 0).nF (fun e=>by omega)).trans h.r.c3,(hs.oth g (o+4) (h.L 0).lt (h.L 0).nF (fun e=>by omega)).trans h.r.c4,(hs.oth g (o+5) (h.L 0).lt (h.L 0).nF (fun e=>by omega)).trans h.r.c5,(hs.oth g (o+6) (h.L 0).lt (h.L 0).nF (fun e=>by omega)).trans h.r.c6,(hs.oth g (o+7) (h.L 0).lt (h.L 0).nF (fun e=>by omega)).trans h.r.c7,(hs.oth g (o+8) (h.L 0).lt (h.L 0).nF (fun e=>by omega)).trans h.r.c8,hc⟩,h.s.trans hs (fun k j _ e=>⟨e.1,by omega,by omega⟩),fun i=>(h.L i).aP hs⟩
theorem ff.sId {w0 w w':World} {cb b g o:Nat} {F0 F F':Nat→Prop} {c c':CS} {E:Nat→Addr} {v:dv} {x:Value} (h:ff w0 w cb b g o F0 F c E v x) (n m:Nat) (hC:Cd w' cb b F' c' E) (h0:w'.cell? ⟨g,o+0,none⟩=some (.int .u32 (n:Nat))) (h1:w'.cell? ⟨g,o+1,none⟩=some (.int .u32 (m:Nat))) (hs:ar w w' F F' (aC g o 2)):ff w0 w' cb b g o F0 F' c' E { v with cl:=n,nu:=m } x:=
 ⟨hC,⟨h0,h1,(hs.oth g (o+2) (h.L 0).lt (h.L 0).nF (fun e=>by have:=e.2;omega)).trans h.r.c2,(hs.oth g (o+3) (h.L 0).lt (h.L 0).nF (fun e=>by have:=e.2;omega)).trans h.r.c3,(hs.oth g (o+4) (h.L 0).lt (h.L 0).nF (fun e=>by have:=e.2;omega)).trans h.r.c4,(hs.oth g (o+5) (h.L 0).lt (h.L 0).nF (fun e=>by have:=e.2;omega)).trans h.r.c5,(hs.oth g (o+6) (h.L 0).lt (h.L 0).nF (fun e=>by have:=e.2;omega)).trans h.r.c6,(hs.oth g (o+7) (h.L 0).lt (h.L 0).nF (fun e=>by have:=e.2;omega)).trans h.r.c7,(hs.oth g (o+8) (h.L 0).lt (h.L 0).nF (fun e=>by have:=e.2;omega)).trans h.r.c8,(hs.oth g (o+9) (h.L 0).lt (h.L 0).nF (fun e=>by have:=e.2;omega)).trans h.r.c9⟩,h.s.trans hs (fun k j _ e=>⟨e.1,by have:=e.2;omega,by have:=e.2;omega⟩),fun i=>(h.L i).aP hs⟩
theorem wA {α:Type} {en:World→Value→α→Prop} {w w1:World} {cb b g i:Nat} {F K0:Nat→Prop} {c:CS} {E:Nat→Addr} {r:α→Nat} {fv:Value} (T:TypeId) (h:Cd w cb b F c E) (hL:Loc w cb F g i) (hF:iR en w1 K0 fv E r) (hf:Fr (fun _=>False) w w1) (hK:∀ k,K0 k→¬ F k∧k≠g) :
  ij en (w1.alloc (.cells #[fv] T)) F g (.slice (some ⟨w1.heap.size,0,none⟩) 1 1) E [r]:=by
 have hb:=al w1 (.cells #[fv] T)
 have hlt:∀ k,(K0 k∨k=w1.heap.size)→k<(w1.alloc (.cells #[fv] T)).heap.size:=fun k hk=>by
  rcases hk with hk|rfl
  ·exact Nat.lt_of_lt_of_le (hF.lt k hk) hb.size
  ·simp
 refine⟨⟨fun k=>K0 k∨k=w1.heap.size,⟨hlt,⟨_,_,rfl⟩,fun _ _ _ e=>.inr ⟨w1.heap.size,0,by cases e;rfl⟩,fun xo n c' e j r' hr=>?_⟩,fun k hk=>?_⟩,by simp⟩
 ·have ex:xo=some ⟨w1.heap.size,0,none⟩:=by cases e;rfl
  have hj:j=0:=by
   have:=(List.getElem?_eq_some_iff.1 hr).1
   simp at this;exact this
  subst hj
  obtain rfl:r=r':=by simpa using hr
  exact⟨w1.heap.size,0,fv,ex,.inr rfl,by simp,hF.mono (fun k hk=>hb.block k (hF.lt k hk) (fun h=>h)) (fun _ h=>.inl h) hlt⟩
 ·rcases hk with hk|rfl
  ·exact hK k hk
  ·have h1:=hf.size
   have h2:=hL.lt
   exact⟨fun hx=>by have:=h.lt _ hx;omega,by omega⟩
theorem qT {c:CS} {nm:ByteArray} {r:Nat→Nat} {v cb b g o:Nat} {F:Nat→Prop} {E:Nat→Addr} {w w1:World} {fv:Value} (T:TypeId) (h:Cd w cb b F c E) (hp:w.cell? ⟨g,o,none⟩=some (.int .u8 (v:Nat))) (hL:Loc w cb F g o) (hv:v<256) (hR:RR dP w w1 E fv r) (hf:Fr (fun _=>False) w w1) (hroom:c.room 1) :
  Calls Tryz.prog 127 #[.pointer (some ⟨cb,0,none⟩),.string nm,.pointer (some ⟨g,o,none⟩),.slice (some ⟨w1.heap.size,0,none⟩) 1 1] (w1.alloc (.cells #[fv] T)) fun e w'=>e = .returned (.tuple #[])∧∃ F',Cd w' cb b F' (c.fe nm [r] v).1 E∧w'.cell? ⟨g,o,none⟩=some (.int .u8 ((c.fe nm [r] v).2:Nat))∧ar w w' F F' (fun k j=>k=g∧j=o):=by
 obtain⟨K0,hF,hK⟩:=hR
 exact pC T h hp hL hv hF hf hK hroom
theorem ib {c:CS} {nm:ByteArray} {r:Nat→Nat} {v cb b g o:Nat} {F:Nat→Prop} {E:Nat→Addr} {w w1:World} {fv:Value} (T:TypeId) (h:Cd w cb b F c E) (hp:w.cell? ⟨g,o,none⟩=some (.int .u32 (v:Nat))) (hL:Loc w cb F g o) (hv:v<4294967296) (hR:RR dR w w1 E fv r) (hf:Fr (fun _=>False) w w1) (hroom:c.room 1) :
  Calls Tryz.prog 130 #[.pointer (some ⟨cb,0,none⟩),.string nm,.pointer (some ⟨g,o,none⟩),.slice (some ⟨w1.heap.size,0,none⟩) 1 1] (w1.alloc (.cells #[fv] T)) fun e w'=>e = .returned (.tuple #[])∧∃ F',Cd w' cb b F' (c.bL nm [r] v).1 E∧w'.cell? ⟨g,o,none⟩=some (.int .u32 ((c.bL nm [r] v).2:Nat))∧ar w w' F F' (fun k j=>k=g∧j=o):=by
 obtain⟨K0,hF,hK⟩:=hR
 exact x9 T h hp hL hv hF hf hK hroom
def CS.q1 (c:CS) (v:dv):CS × Nat × Nat:=c.ky (v.cl,v.nu)
def CS.q2 (c:CS) (v:dv):CS × Nat:=(c.q1 v).1.bL ju [] v.ac
def CS.q3 (c:CS) (v:dv):CS × Nat:=(c.q2 v).1.fe wL [bC 1 7 5] v.op
def CS.q4 (c:CS) (v:dv):CS × Nat:=(c.q3 v).1.bL dc [bC 0 (aN (c.q3 v).2).1 4] v.re
def CS.q5 (c:CS) (v:dv):CS × Nat:=(c.q4 v).1.bL cg [bC 0 (aN (c.q3 v).2).2.1 4] v.ve
def CS.q6 (c:CS) (v:dv):CS × Nat:=(c.q5 v).1.bL gF [bC 0 (aN (c.q3 v).2).2.2.1 4] v.wa
def CS.q7 (c:CS) (v:dv):CS × Nat:=(c.q6 v).1.bL ig [bC 0 (aN (c.q3 v).2).2.2.2.1 4] v.ow
def CS.q8 (c:CS) (v:dv):CS × List cj:=(c.q7 v).1.cF (aN (c.q3 v).2).2.2.2.2.2.2 [kT 0 (aN (c.q3 v).2).2.2.2.2.1 4] v.fs
def CS.q9 (c:CS) (v:dv):CS × ByteArray:=(c.q8 v).1.dG eb 64 [fun v=>cu 0 64 v.size,Ak (aN (c.q3 v).2).2.2.2.2.2.1] v.rs
def CS.aZ (c:CS) (v:dv):CS × dv:=((c.q9 v).1,⟨(c.q1 v).2.1,(c.q1 v).2.2,(c.q2 v).2,(c.q3 v).2,(c.q4 v).2,(c.q5 v).2,(c.q6 v).2,(c.q7 v).2,(c.q8 v).2,(c.q9 v).2⟩)
structure C2 (w:World) (lb op:Nat) (F:Nat→Prop) (g:Nat):Prop where
 c0:w.cell? ⟨lb,0,none⟩=some (.int .u32 ((aN op).1:Nat))
 c1:w.cell? ⟨lb,1,none⟩=some (.int .u32 ((aN op).2.1:Nat))
 c2:w.cell? ⟨lb,2,none⟩=some (.int .u32 ((aN op).2.2.1:Nat))
 c3:w.cell? ⟨lb,3,none⟩=some (.int .u32 ((aN op).2.2.2.1:Nat))
 c4:w.cell? ⟨lb,4,none⟩=some (.int .i64 (aN op).2.2.2.2.1)
 c5:w.cell? ⟨lb,5,none⟩=some (.int .i64 (aN op).2.2.2.2.2.1)
 c6:w.cell? ⟨lb,6,none⟩=some (.int .u8 ((aN op).2.2.2.2.2.2:Nat))
 nF:¬ F lb
 ng:lb≠g
theorem C2.aP {w w':World} {lb op:Nat} {F F':Nat→Prop} {P:Nat→Nat→Prop} {g:Nat} (h:C2 w lb op F g) (hs:ar w w' F F' P) (hP:∀ i,¬ P lb i):C2 w' lb op F' g:=
 ⟨(hs.oth lb 0 (ab h.c0) h.nF (hP 0)).trans h.c0,(hs.oth lb 1 (ab h.c0) h.nF (hP 1)).trans h.c1,(hs.oth lb 2 (ab h.c0) h.nF (hP 2)).trans h.c2,(hs.oth lb 3 (ab h.c0) h.nF (hP 3)).trans h.c3,(hs.oth lb 4 (ab h.c0) h.nF (hP 4)).trans h.c4,(hs.oth lb 5 (ab h.c0) h.nF (hP 5)).trans h.c5,(hs.oth lb 6 (ab h.c0) h.nF (hP 6)).trans h.c6,hs.nF (ab h.c0) h.nF,h.ng⟩
theorem gL (c:CS) (v:dv) (x:Value) (cb b g o:Nat) (F:Nat→Prop) (E:Nat→Addr) (w:World) (h:Cd w cb b F c E) (hp:ou w g o v x) (hX:jF w c x v.fs F g) (hL:∀ i,Loc w cb F g i) (hv:v.ok) (hroom:c.room 220) :
  Calls Tryz.prog 108 #[.pointer (some ⟨cb,0,none⟩),.pointer (some ⟨g,o,none⟩)] w fun e w'=>e = .returned (.tuple #[])∧∃ F' x',Cd w' cb b F' (c.aZ v).1 E∧ou w' g o { (c.aZ v).2 with fs:=v.fs } x'∧kg w w' c x x' (c.aZ v).2.fs F'∧ar w w' F F' (aC g o 10):=by
 have hsf:=cO
 have hmf:=mf
 have R1:(c.q1 v).1.room 218:=CS.ej hroom _
 have R2:(c.q2 v).1.room 217:=CS.aF R1 _ _ _
 have R3:(c.q3 v).1.room 216:=CS.ch R2 _ _ _
 have R4:(c.q4 v).1.room 215:=CS.aF R3 _ _ _
 have R5:(c.q5 v).1.room 214:=CS.aF R4 _ _ _
 have R6:(c.q6 v).1.room 213:=CS.aF R5 _ _ _
 have R7:(c.q7 v).1.room 212:=CS.aF R6 _ _ _
 have R8:(c.q8 v).1.room 83:=CS.dN R7 _ _ _
 have M7:c.sm (c.q7 v).1:=CS.ax (CS.ax (CS.ax (CS.ax (CS.ax (CS.ax (c.gO _) (CS.bo _ _ _ _)) (CS.dL _ _ _ _)) (CS.bo _ _ _ _)) (CS.bo _ _ _ _)) (CS.bo _ _ _ _)) (CS.bo _ _ _ _)
 have HR:=ae (And.intro hroom (And.intro R1 (And.intro R2 (And.intro R3 (And.intro R4 (And.intro R5 (And.intro R6 (And.intro R7 (And.intro R8 M7)))))))))
 clear R1 R2 R3 R4 R5 R6 R7 R8 M7
 have HV:=ae hv
 have HX:=ae hX
 have hT0:ff w w cb b g o F F c E v x:=⟨h,hp,ar.refl _ _ _,hL⟩
 have HI:=ae (oB c (v.cl,v.nu) cb b g o F E w h hp.c0 hp.c1 hL hv.cl hv.nu (CS.room_le hroom (by decide)))
 have HT0:=ae hT0
 clear h hp hX hL hv hT0 hroom
 go_enter Tryz.func108,Tryz.ntmps108
 go_wp2_with fail
 refine(aa HI).mono ?_
 rintro e w1 ⟨rfl,F1,hC1,hi0,hi1,hs1⟩
 have HT1:Hid (ff w w1 cb b g o F F1 (c.q1 v).1 E ⟨(c.q1 v).2.1,(c.q1 v).2.2,v.ac,v.op,v.re,v.ve,v.wa,v.ow,v.fs,v.rs⟩ x):=(aa HT0).sId _ _ hC1 hi0 hi1 hs1
 have HA:=ae (bJ (c.q1 v).1 ju [] v.ac cb b g (o+2) F1 E (.slice none 0 0) w1 (aa HT1).C (aa HT1).r.c2 ((aa HT1).L _) (aa HV).ac (ij.nil _ w1 F1 g E) (CS.room_le (aa HR).2.1 (by decide)))
 clear hC1 hi0 hi1 hs1 HI
 go_wp2_with fail
 refine(aa HA).mono ?_
 rintro e w2 ⟨rfl,F2,hC2,hc2,hs2⟩
 have HT2:Hid (ff w w2 cb b g o F F2 (c.q2 v).1 E ⟨(c.q1 v).2.1,(c.q1 v).2.2,(c.q2 v).2,v.op,v.re,v.ve,v.wa,v.ow,v.fs,v.rs⟩ x):=(aa HT1).s2 _ hC2 hc2 hs2
 have HK2:=ae (fun (V:World) (hv:Fr (fun _=>False) w2 V)=>aq hv (aa HT2).C.g7.k5)
 clear hC2 hc2 hs2 HA
 go_wp2_with fail
 refine bj (n:=7) (m:=7) (S:=fun V=>Fr (fun _=>False) w2 V) (by kernel_rfl) rfl rfl rfl (by kernel_rfl) (by kernel_rfl) ((Fr.refl _ _).drew) (fun hHeld=>?_)
 refine cK (i:=0) (v:=?_) rfl (Or.inl ⟨by rfl,?_⟩) hHeld ?_
 rotate_left
 ·intro V hSw;(try dsimp only at hSw);have q0:=(aa HK2) V hSw;go_simp;(try with_reducible rfl)
 (try simp only[Act.put,bd])
 refine cK (i:=1) (v:=?_) rfl (Or.inl ⟨by rfl,?_⟩) hHeld ?_
 rotate_left
 ·intro V hSw;(try dsimp only at hSw);have q0:=(aa HK2) V hSw;go_simp;(try with_reducible rfl)
 (try simp only[Act.put,bd])
 refine cK (i:=2) (v:=?_) rfl (Or.inl ⟨by rfl,?_⟩) hHeld ?_
 rotate_left
 ·intro V hSw;(try dsimp only at hSw);have q0:=(aa HK2) V hSw;go_simp;(try with_reducible rfl)
 (try simp only[Act.put,bd])
 refine cK (i:=3) (v:=?_) rfl (Or.inl ⟨by rfl,?_⟩) hHeld ?_
 rotate_left
 ·intro V hSw;(try dsimp only at hSw);have q0:=(aa HK2) V hSw;go_simp;(try with_reducible rfl)
 (try simp only[Act.put,bd])
 refine cK (i:=4) (v:=?_) rfl (Or.inl ⟨by rfl,?_⟩) hHeld ?_
 rotate_left
 ·intro V hSw;(try dsimp only at hSw);have q0:=(aa HK2) V hSw;go_simp;(try with_reducible rfl)
 (try simp only[Act.put,bd])
 refine wpAnyH_ready (rs:=[5]) (by kernel_rfl) (by simp) (AllReadyH.cons rfl (fun K hK=>?_) AllReadyH.nil)
 go_simp
 refine(dA 1 7 5 E _ (by decide)).mono ?_
 rintro e w3 ⟨fv1,rfl,K1,hF1,hf1,hK1⟩
 have H3:=ae (And.intro (show RR dP w2 w3 E fv1 (bC 1 7 5) from⟨K1,hF1,hK1.mono (Nat.le_refl _)⟩) ((Fr.refl _ _).drew.trans hf1 (fun _ _ h=>h)))
 obtain⟨Fc1,caps1,rfl,_⟩:=hF1.ex
 clear hF1 hf1 hK1
 go_simp
 refine hK.out _ _ ((aa H3).2) (fun hHeld=>?_)
 clear hK K
 (try simp only[Act.put,bd])
 refine wpAnyH_ready (rs:=[6]) (by kernel_rfl) (by simp) (AllReadyH.cons rfl (fun K hK=>?_) AllReadyH.nil)
 go_simp
 refine hK.out _ _ ((aa H3).2.alloc _) (fun hHeld=>?_)
 clear hK K
 (try simp only[Act.put,bd])
 refine wpAnyH_done (by kernel_rfl) ?_ _
 simp only[fB]
 go_simp
 refine(qT (nm:=wL) _ (aa HT2).C (aa HT2).r.c3 ((aa HT2).L _) (aa HV).op (aa H3).1 (aa H3).2 (CS.room_le (aa HR).2.2.1 (by decide))).mono ?_
 rintro e w4 ⟨rfl,F4,hC4,hc4,hs4⟩
 have HT4:Hid (ff w w4 cb b g o F F4 (c.q3 v).1 E ⟨(c.q1 v).2.1,(c.q1 v).2.2,(c.q2 v).2,(c.q3 v).2,v.re,v.ve,v.wa,v.ow,v.fs,v.rs⟩ x):=(aa HT2).s3 _ hC4 hc4 hs4
 have o4:w4.cell? ⟨g,o+3,none⟩=some (.int .u8 ((c.q3 v).2:Nat)):=(aa HT4).r.c3
 have HLM:=ae (oK (c.q3 v).2 w4)
 unfold ee at HLM
 clear hC4 hc4 hs4 H3 HK2
 go_wp2_with fail
 refine(aa HLM).mono ?_
 rintro e w5 ⟨rfl,hf5⟩
 obtain⟨w6,hw6⟩:∃ w6,w6=w5.alloc (.cells #[.int .u32 ((aN (c.q3 v).2).1:Nat),.int .u32 ((aN (c.q3 v).2).2.1:Nat),.int .u32 ((aN (c.q3 v).2).2.2.1:Nat),.int .u32 ((aN (c.q3 v).2).2.2.2.1:Nat),.int .i64 (aN (c.q3 v).2).2.2.2.2.1,.int .i64 (aN (c.q3 v).2).2.2.2.2.2.1,.int .u8 ((aN (c.q3 v).2).2.2.2.2.2.2:Nat)] 248):=⟨_,rfl⟩
 have hf6:Fr (fun _=>False) w4 w6:=by rw[hw6];exact hf5.alloc _
 have hb6:w6.heap[w5.heap.size]?=some (.cells #[.int .u32 ((aN (c.q3 v).2).1:Nat),.int .u32 ((aN (c.q3 v).2).2.1:Nat),.int .u32 ((aN (c.q3 v).2).2.2.1:Nat),.int .u32 ((aN (c.q3 v).2).2.2.2.1:Nat),.int .i64 (aN (c.q3 v).2).2.2.2.2.1,.int .i64 (aN (c.q3 v).2).2.2.2.2.2.1,.int .u8 ((aN (c.q3 v).2).2.2.2.2.2.2:Nat)] 248):=by rw[hw6];exact heap_alloc_new _ _
 have HT6:=ae ((aa HT4).aR hf6)
 have hl5:=hf5.size
 have HB6:Hid (C2 w6 w5.heap.size (c.q3 v).2 F4 g):=⟨ag hb6 rfl,ag hb6 rfl,ag hb6 rfl,ag hb6 rfl,ag hb6 rfl,ag hb6 rfl,ag hb6 rfl,fun hx=>by have:=(aa HT4).C.lt _ hx;omega,by have:=((aa HT4).L 0).lt;omega⟩
 have HW6:=ae hw6
 clear hf5 hw6 hf6 hb6 o4 HLM hl5
 go_wp2_with fail
 rw[← aa HW6]
 clear HW6
 generalize w5.heap.size=lb at *
 have HK4:=ae (fun (V:World) (hv:Fr (fun _=>False) w6 V)=>And.intro (aq hv (aa HT6).C.g7.k4) (aq hv (aa HB6).c0))
 refine bj (n:=9) (m:=9) (S:=fun V=>Fr (fun _=>False) w6 V) (by kernel_rfl) rfl rfl rfl (by kernel_rfl) (by kernel_rfl) ((Fr.refl _ _).drew) (fun hHeld=>?_)
 refine cK (i:=0) (v:=?_) rfl (Or.inl ⟨by rfl,?_⟩) hHeld ?_
 rotate_left
 ·intro V hSw;(try dsimp only at hSw);obtain⟨q0,q1⟩:=(aa HK4) V hSw;go_simp;(try with_reducible rfl)
 (try simp only[Act.put,bd])
 refine cK (i:=1) (v:=?_) rfl (Or.inl ⟨by rfl,?_⟩) hHeld ?_
 rotate_left
 ·intro V hSw;(try dsimp only at hSw);obtain⟨q0,q1⟩:=(aa HK4) V hSw;go_simp;(try with_reducible rfl)
 (try simp only[Act.put,bd])
 refine cK (i:=2) (v:=?_) rfl (Or.inl ⟨by rfl,?_⟩) hHeld ?_
 rotate_left
 ·intro V hSw;(try dsimp only at hSw);obtain⟨q0,q1⟩:=(aa HK4) V hSw;go_simp;(try with_reducible rfl)
 (try simp only[Act.put,bd])
 refine cK (i:=3) (v:=?_) rfl (Or.inl ⟨by rfl,?_⟩) hHeld ?_
 rotate_left
 ·intro V hSw;(try dsimp only at hSw);obtain⟨q0,q1⟩:=(aa HK4) V hSw;go_simp;(try with_reducible rfl)
 (try simp only[Act.put,bd])
 refine cK (i:=4) (v:=?_) rfl (Or.inl ⟨by rfl,?_⟩) hHeld ?_
 rotate_left
 ·intro V hSw;(try dsimp only at hSw);obtain⟨q0,q1⟩:=(aa HK4) V hSw;go_simp;(try with_reducible rfl)
 (try simp only[Act.put,bd])
 refine cK (i:=5) (v:=?_) rfl (Or.inl ⟨by rfl,?_⟩) hHeld ?_
 rotate_left
 ·intro V hSw;(try dsimp only at hSw);obtain⟨q0,q1⟩:=(aa HK4) V hSw;go_simp;(try with_reducible rfl)
 (try simp only[Act.put,bd])
 refine cK (i:=6) (v:=?_) rfl (Or.inl ⟨by rfl,?_⟩) hHeld ?_
 rotate_left
 ·intro V hSw;(try dsimp only at hSw);obtain⟨q0,q1⟩:=(aa HK4) V hSw;go_simp;(try with_reducible rfl)
 (try simp only[Act.put,bd])
 refine wpAnyH_ready (rs:=[7]) (by kernel_rfl) (by simp) (AllReadyH.cons rfl (fun K hK=>?_) AllReadyH.nil)
 go_simp
 refine(fY 0 (aN (c.q3 v).2).1 4 E _ (by decide)).mono ?_
 rintro e w4a ⟨fv1,rfl,K1,hF1,hf1,hK1⟩
 have H3:=ae (And.intro (show RR dR w6 w4a E fv1 (bC 0 (aN (c.q3 v).2).1 4) from⟨K1,hF1,hK1.mono (Nat.le_refl _)⟩) ((Fr.refl _ _).drew.trans hf1 (fun _ _ h=>h)))
 obtain⟨Fc1,caps1,rfl,_⟩:=hF1.ex
 clear hF1 hf1 hK1
 go_simp
 refine hK.out _ _ ((aa H3).2) (fun hHeld=>?_)
 clear hK K
 (try simp only[Act.put,bd])
 refine wpAnyH_ready (rs:=[8]) (by kernel_rfl) (by simp) (AllReadyH.cons rfl (fun K hK=>?_) AllReadyH.nil)
 go_simp
 refine hK.out _ _ ((aa H3).2.alloc _) (fun hHeld=>?_)
 clear hK K
 (try simp only[Act.put,bd])
 refine wpAnyH_done (by kernel_rfl) ?_ _
 simp only[fB]
 go_simp
 refine(ib (nm:=dc) _ (aa HT6).C (aa HT6).r.c4 ((aa HT6).L _) (aa HV).re (aa H3).1 (aa H3).2 (CS.room_le (aa HR).2.2.2.1 (by decide))).mono ?_
 rintro e w4b ⟨rfl,F4b,hC4,hc4,hs4⟩
 have HT4b:Hid (ff w w4b cb b g o F F4b (c.q4 v).1 E ⟨(c.q1 v).2.1,(c.q1 v).2.2,(c.q2 v).2,(c.q3 v).2,(c.q4 v).2,v.ve,v.wa,v.ow,v.fs,v.rs⟩ x):=(aa HT6).s4 _ hC4 hc4 hs4
 have HB4b:=ae ((aa HB6).aP hs4 (fun i h=>(aa HB6).ng h.1))
 clear hC4 hc4 hs4 H3 HK4
 have HK5:=ae (fun (V:World) (hv:Fr (fun _=>False) w4b V)=>And.intro (aq hv (aa HT4b).C.g7.k4) (aq hv (aa HB4b).c1))
 go_wp2_with fail
 refine bj (n:=9) (m:=9) (S:=fun V=>Fr (fun _=>False) w4b V) (by kernel_rfl) rfl rfl rfl (by kernel_rfl) (by kernel_rfl) ((Fr.refl _ _).drew) (fun hHeld=>?_)
 refine cK (i:=0) (v:=?_) rfl (Or.inl ⟨by rfl,?_⟩) hHeld ?_
 rotate_left
 ·intro V hSw;(try dsimp only at hSw);obtain⟨q0,q1⟩:=(aa HK5) V hSw;go_simp;(try with_reducible rfl)
 (try simp only[Act.put,bd])
 refine cK (i:=1) (v:=?_) rfl (Or.inl ⟨by rfl,?_⟩) hHeld ?_
 rotate_left
 ·intro V hSw;(try dsimp only at hSw);obtain⟨q0,q1⟩:=(aa HK5) V hSw;go_simp;(try with_reducible rfl)
 (try simp only[Act.put,bd])
 refine cK (i:=2) (v:=?_) rfl (Or.inl ⟨by rfl,?_⟩) hHeld ?_
 rotate_left
 ·intro V hSw;(try dsimp only at hSw);obtain⟨q0,q1⟩:=(aa HK5) V hSw;go_simp;(try with_reducible rfl)
 (try simp only[Act.put,bd])
 refine cK (i:=3) (v:=?_) rfl (Or.inl ⟨by rfl,?_⟩) hHeld ?_
 rotate_left
 ·intro V hSw;(try dsimp only at hSw);obtain⟨q0,q1⟩:=(aa HK5) V hSw;go_simp;(try with_reducible rfl)
 (try simp only[Act.put,bd])
 refine cK (i:=4) (v:=?_) rfl (Or.inl ⟨by rfl,?_⟩) hHeld ?_
 rotate_left
 ·intro V hSw;(try dsimp only at hSw);obtain⟨q0,q1⟩:=(aa HK5) V hSw;go_simp;(try with_reducible rfl)
 (try simp only[Act.put,bd])
 refine cK (i:=5) (v:=?_) rfl (Or.inl ⟨by rfl,?_⟩) hHeld ?_
 rotate_left
 ·intro V hSw;(try dsimp only at hSw);obtain⟨q0,q1⟩:=(aa HK5) V hSw;go_simp;(try with_reducible rfl)
 (try simp only[Act.put,bd])
 refine cK (i:=6) (v:=?_) rfl (Or.inl ⟨by rfl,?_⟩) hHeld ?_
 rotate_left
 ·intro V hSw;(try dsimp only at hSw);obtain⟨q0,q1⟩:=(aa HK5) V hSw;go_simp;(try with_reducible rfl)
 (try simp only[Act.put,bd])
 refine wpAnyH_ready (rs:=[7]) (by kernel_rfl) (by simp) (AllReadyH.cons rfl (fun K hK=>?_) AllReadyH.nil)
 go_simp
 refine(fY 0 (aN (c.q3 v).2).2.1 4 E _ (by decide)).mono ?_
 rintro e w5a ⟨fv1,rfl,K1,hF1,hf1,hK1⟩
 have H3:=ae (And.intro (show RR dR w4b w5a E fv1 (bC 0 (aN (c.q3 v).2).2.1 4) from⟨K1,hF1,hK1.mono (Nat.le_refl _)⟩) ((Fr.refl _ _).drew.trans hf1 (fun _ _ h=>h)))
 obtain⟨Fc1,caps1,rfl,_⟩:=hF1.ex
 clear hF1 hf1 hK1
 go_simp
 refine hK.out _ _ ((aa H3).2) (fun hHeld=>?_)
 clear hK K
 (try simp only[Act.put,bd])
 refine wpAnyH_ready (rs:=[8]) (by kernel_rfl) (by simp) (AllReadyH.cons rfl (fun K hK=>?_) AllReadyH.nil)
 go_simp
 refine hK.out _ _ ((aa H3).2.alloc _) (fun hHeld=>?_)
 clear hK K
 (try simp only[Act.put,bd])
 refine wpAnyH_done (by kernel_rfl) ?_ _
 simp only[fB]
 go_simp
 refine(ib (nm:=cg) _ (aa HT4b).C (aa HT4b).r.c5 ((aa HT4b).L _) (aa HV).ve (aa H3).1 (aa H3).2 (CS.room_le (aa HR).2.2.2.2.1 (by decide))).mono ?_
 rintro e w5b ⟨rfl,F5b,hC4,hc4,hs4⟩
 have HT5b:Hid (ff w w5b cb b g o F F5b (c.q5 v).1 E ⟨(c.q1 v).2.1,(c.q1 v).2.2,(c.q2 v).2,(c.q3 v).2,(c.q4 v).2,(c.q5 v).2,v.wa,v.ow,v.fs,v.rs⟩ x):=(aa HT4b).s5 _ hC4 hc4 hs4
 have HB5b:=ae ((aa HB4b).aP hs4 (fun i h=>(aa HB4b).ng h.1))
 clear hC4 hc4 hs4 H3 HK5
 have HK6:=ae (fun (V:World) (hv:Fr (fun _=>False) w5b V)=>And.intro (aq hv (aa HT5b).C.g7.k4) (aq hv (aa HB5b).c2))
 go_wp2_with fail
 refine bj (n:=9) (m:=9) (S:=fun V=>Fr (fun _=>False) w5b V) (by kernel_rfl) rfl rfl rfl (by kernel_rfl) (by kernel_rfl) ((Fr.refl _ _).drew) (fun hHeld=>?_)
 refine cK (i:=0) (v:=?_) rfl (Or.inl ⟨by rfl,?_⟩) hHeld ?_
 rotate_left
 ·intro V hSw;(try dsimp only at hSw);obtain⟨q0,q1⟩:=(aa HK6) V hSw;go_simp;(try with_reducible rfl)
 (try simp only[Act.put,bd])
 refine cK (i:=1) (v:=?_) rfl (Or.inl ⟨by rfl,?_⟩) hHeld ?_
 rotate_left
 ·intro V hSw;(try dsimp only at hSw);obtain⟨q0,q1⟩:=(aa HK6) V hSw;go_simp;(try with_reducible rfl)
 (try simp only[Act.put,bd])
 refine cK (i:=2) (v:=?_) rfl (Or.inl ⟨by rfl,?_⟩) hHeld ?_
 rotate_left
 ·intro V hSw;(try dsimp only at hSw);obtain⟨q0,q1⟩:=(aa HK6) V hSw;go_simp;(try with_reducible rfl)
 (try simp only[Act.put,bd])
 refine cK (i:=3) (v:=?_) rfl (Or.inl ⟨by rfl,?_⟩) hHeld ?_
 rotate_left
 ·intro V hSw;(try dsimp only at hSw);obtain⟨q0,q1⟩:=(aa HK6) V hSw;go_simp;(try with_reducible rfl)
 (try simp only[Act.put,bd])
 refine cK (i:=4) (v:=?_) rfl (Or.inl ⟨by rfl,?_⟩) hHeld ?_
 rotate_left
 ·intro V hSw;(try dsimp only at hSw);obtain⟨q0,q1⟩:=(aa HK6) V hSw;go_simp;(try with_reducible rfl)
 (try simp only[Act.put,bd])
 refine cK (i:=5) (v:=?_) rfl (Or.inl ⟨by rfl,?_⟩) hHeld ?_
 rotate_left
 ·intro V hSw;(try dsimp only at hSw);obtain⟨q0,q1⟩:=(aa HK6) V hSw;go_simp;(try with_reducible rfl)
 (try simp only[Act.put,bd])
 refine cK (i:=6) (v:=?_) rfl (Or.inl ⟨by rfl,?_⟩) hHeld ?_
 rotate_left
 ·intro V hSw;(try dsimp only at hSw);obtain⟨q0,q1⟩:=(aa HK6) V hSw;go_simp;(try with_reducible rfl)
 (try simp only[Act.put,bd])
 refine wpAnyH_ready (rs:=[7]) (by kernel_rfl) (by simp) (AllReadyH.cons rfl (fun K hK=>?_) AllReadyH.nil)
 go_simp
 refine(fY 0 (aN (c.q3 v).2).2.2.1 4 E _ (by decide)).mono ?_
 rintro e w6a ⟨fv1,rfl,K1,hF1,hf1,hK1⟩
 have H3:=ae (And.intro (show RR dR w5b w6a E fv1 (bC 0 (aN (c.q3 v).2).2.2.1 4) from⟨K1,hF1,hK1.mono (Nat.le_refl _)⟩) ((Fr.refl _ _).drew.trans hf1 (fun _ _ h=>h)))
 obtain⟨Fc1,caps1,rfl,_⟩:=hF1.ex
 clear hF1 hf1 hK1
 go_simp
 refine hK.out _ _ ((aa H3).2) (fun hHeld=>?_)
 clear hK K
 (try simp only[Act.put,bd])
 refine wpAnyH_ready (rs:=[8]) (by kernel_rfl) (by simp) (AllReadyH.cons rfl (fun K hK=>?_) AllReadyH.nil)
 go_simp
 refine hK.out _ _ ((aa H3).2.alloc _) (fun hHeld=>?_)
 clear hK K
 (try simp only[Act.put,bd])
 refine wpAnyH_done (by kernel_rfl) ?_ _
 simp only[fB]
 go_simp
 refine(ib (nm:=gF) _ (aa HT5b).C (aa HT5b).r.c6 ((aa HT5b).L _) (aa HV).wa (aa H3).1 (aa H3).2 (CS.room_le (aa HR).2.2.2.2.2.1 (by decide))).mono ?_
 rintro e w6b ⟨rfl,F6b,hC4,hc4,hs4⟩
 have HT6b:Hid (ff w w6b cb b g o F F6b (c.q6 v).1 E ⟨(c.q1 v).2.1,(c.q1 v).2.2,(c.q2 v).2,(c.q3 v).2,(c.q4 v).2,(c.q5 v).2,(c.q6 v).2,v.ow,v.fs,v.rs⟩ x):=(aa HT5b).s6 _ hC4 hc4 hs4
 have HB6b:=ae ((aa HB5b).aP hs4 (fun i h=>(aa HB5b).ng h.1))
 clear hC4 hc4 hs4 H3 HK6
 have HK7:=ae (fun (V:World) (hv:Fr (fun _=>False) w6b V)=>And.intro (aq hv (aa HT6b).C.g7.k4) (aq hv (aa HB6b).c3))
 go_wp2_with fail
 refine bj (n:=9) (m:=9) (S:=fun V=>Fr (fun _=>False) w6b V) (by kernel_rfl) rfl rfl rfl (by kernel_rfl) (by kernel_rfl) ((Fr.refl _ _).drew) (fun hHeld=>?_)
 refine cK (i:=0) (v:=?_) rfl (Or.inl ⟨by rfl,?_⟩) hHeld ?_
 rotate_left
 ·intro V hSw;(try dsimp only at hSw);obtain⟨q0,q1⟩:=(aa HK7) V hSw;go_simp;(try with_reducible rfl)
 (try simp only[Act.put,bd])
 refine cK (i:=1) (v:=?_) rfl (Or.inl ⟨by rfl,?_⟩) hHeld ?_
 rotate_left
 ·intro V hSw;(try dsimp only at hSw);obtain⟨q0,q1⟩:=(aa HK7) V hSw;go_simp;(try with_reducible rfl)
 (try simp only[Act.put,bd])
 refine cK (i:=2) (v:=?_) rfl (Or.inl ⟨by rfl,?_⟩) hHeld ?_
 rotate_left
 ·intro V hSw;(try dsimp only at hSw);obtain⟨q0,q1⟩:=(aa HK7) V hSw;go_simp;(try with_reducible rfl)
 (try simp only[Act.put,bd])
 refine cK (i:=3) (v:=?_) rfl (Or.inl ⟨by rfl,?_⟩) hHeld ?_
 rotate_left
 ·intro V hSw;(try dsimp only at hSw);obtain⟨q0,q1⟩:=(aa HK7) V hSw;go_simp;(try with_reducible rfl)
 (try simp only[Act.put,bd])
 refine cK (i:=4) (v:=?_) rfl (Or.inl ⟨by rfl,?_⟩) hHeld ?_
 rotate_left
 ·intro V hSw;(try dsimp only at hSw);obtain⟨q0,q1⟩:=(aa HK7) V hSw;go_simp;(try with_reducible rfl)
 (try simp only[Act.put,bd])
 refine cK (i:=5) (v:=?_) rfl (Or.inl ⟨by rfl,?_⟩) hHeld ?_
 rotate_left
 ·intro V hSw;(try dsimp only at hSw);obtain⟨q0,q1⟩:=(aa HK7) V hSw;go_simp;(try with_reducible rfl)
 (try simp only[Act.put,bd])
 refine cK (i:=6) (v:=?_) rfl (Or.inl ⟨by rfl,?_⟩) hHeld ?_
 rotate_left
 ·intro V hSw;(try dsimp only at hSw);obtain⟨q0,q1⟩:=(aa HK7) V hSw;go_simp;(try with_reducible rfl)
 (try simp only[Act.put,bd])
 refine wpAnyH_ready (rs:=[7]) (by kernel_rfl) (by simp) (AllReadyH.cons rfl (fun K hK=>?_) AllReadyH.nil)
 go_simp
 refine(fY 0 (aN (c.q3 v).2).2.2.2.1 4 E _ (by decide)).mono ?_
 rintro e w7a ⟨fv1,rfl,K1,hF1,hf1,hK1⟩
 have H3:=ae (And.intro (show RR dR w6b w7a E fv1 (bC 0 (aN (c.q3 v).2).2.2.2.1 4) from⟨K1,hF1,hK1.mono (Nat.le_refl _)⟩) ((Fr.refl _ _).drew.trans hf1 (fun _ _ h=>h)))
 obtain⟨Fc1,caps1,rfl,_⟩:=hF1.ex
 clear hF1 hf1 hK1
 go_simp
 refine hK.out _ _ ((aa H3).2) (fun hHeld=>?_)
 clear hK K
 (try simp only[Act.put,bd])
 refine wpAnyH_ready (rs:=[8]) (by kernel_rfl) (by simp) (AllReadyH.cons rfl (fun K hK=>?_) AllReadyH.nil)
 go_simp
 refine hK.out _ _ ((aa H3).2.alloc _) (fun hHeld=>?_)
 clear hK K
 (try simp only[Act.put,bd])
 refine wpAnyH_done (by kernel_rfl) ?_ _
 simp only[fB]
 go_simp
 refine(ib (nm:=ig) _ (aa HT6b).C (aa HT6b).r.c7 ((aa HT6b).L _) (aa HV).ow (aa H3).1 (aa H3).2 (CS.room_le (aa HR).2.2.2.2.2.2.1 (by decide))).mono ?_
 rintro e w7b ⟨rfl,F7b,hC4,hc4,hs4⟩
 have HT7b:Hid (ff w w7b cb b g o F F7b (c.q7 v).1 E ⟨(c.q1 v).2.1,(c.q1 v).2.2,(c.q2 v).2,(c.q3 v).2,(c.q4 v).2,(c.q5 v).2,(c.q6 v).2,(c.q7 v).2,v.fs,v.rs⟩ x):=(aa HT6b).s7 _ hC4 hc4 hs4
 have HB7b:=ae ((aa HB6b).aP hs4 (fun i h=>(aa HB6b).ng h.1))
 clear hC4 hc4 hs4 H3 HK7
 have HK8:=ae (fun (V:World) (hv:Fr (fun _=>False) w7b V)=>And.intro (aq hv (aa HT7b).C.g7.k4) (And.intro (aq hv (aa HB7b).c6) (aq hv (aa HB7b).c4)))
 go_wp2_with fail
 refine bj (n:=11) (m:=11) (S:=fun V=>Fr (fun _=>False) w7b V) (by kernel_rfl) rfl rfl rfl (by kernel_rfl) (by kernel_rfl) ((Fr.refl _ _).drew) (fun hHeld=>?_)
 refine cK (i:=0) (v:=?_) rfl (Or.inl ⟨by rfl,?_⟩) hHeld ?_
 rotate_left
 ·intro V hSw;(try dsimp only at hSw);obtain⟨q0,q1,q2⟩:=(aa HK8) V hSw;go_simp;(try with_reducible rfl)
 (try simp only[Act.put,bd])
 refine cK (i:=1) (v:=?_) rfl (Or.inl ⟨by rfl,?_⟩) hHeld ?_
 rotate_left
 ·intro V hSw;(try dsimp only at hSw);obtain⟨q0,q1,q2⟩:=(aa HK8) V hSw;go_simp;(try with_reducible rfl)
 (try simp only[Act.put,bd])
 refine cK (i:=2) (v:=?_) rfl (Or.inl ⟨by rfl,?_⟩) hHeld ?_
 rotate_left
 ·intro V hSw;(try dsimp only at hSw);obtain⟨q0,q1,q2⟩:=(aa HK8) V hSw;go_simp;(try with_reducible rfl)
 (try simp only[Act.put,bd])
 refine cK (i:=3) (v:=?_) rfl (Or.inl ⟨by rfl,?_⟩) hHeld ?_
 rotate_left
 ·intro V hSw;(try dsimp only at hSw);obtain⟨q0,q1,q2⟩:=(aa HK8) V hSw;go_simp;(try with_reducible rfl)
 (try simp only[Act.put,bd])
 refine cK (i:=4) (v:=?_) rfl (Or.inl ⟨by rfl,?_⟩) hHeld ?_
 rotate_left
 ·intro V hSw;(try dsimp only at hSw);obtain⟨q0,q1,q2⟩:=(aa HK8) V hSw;go_simp;(try with_reducible rfl)
 (try simp only[Act.put,bd])
 refine cK (i:=5) (v:=?_) rfl (Or.inl ⟨by rfl,?_⟩) hHeld ?_
 rotate_left
 ·intro V hSw;(try dsimp only at hSw);obtain⟨q0,q1,q2⟩:=(aa HK8) V hSw;go_simp;(try with_reducible rfl)
 (try simp only[Act.put,bd])
 refine cK (i:=6) (v:=?_) rfl (Or.inl ⟨by rfl,?_⟩) hHeld ?_
 rotate_left
 ·intro V hSw;(try dsimp only at hSw);obtain⟨q0,q1,q2⟩:=(aa HK8) V hSw;go_simp;(try with_reducible rfl)
 (try simp only[Act.put,bd])
 refine cK (i:=7) (v:=?_) rfl (Or.inl ⟨by rfl,?_⟩) hHeld ?_
 rotate_left
 ·intro V hSw;(try dsimp only at hSw);obtain⟨q0,q1,q2⟩:=(aa HK8) V hSw;go_simp;(try with_reducible rfl)
 (try simp only[Act.put,bd])
 refine cK (i:=8) (v:=?_) rfl (Or.inl ⟨by rfl,?_⟩) hHeld ?_
 rotate_left
 ·intro V hSw;(try dsimp only at hSw);obtain⟨q0,q1,q2⟩:=(aa HK8) V hSw;go_simp;(try with_reducible rfl)
 (try simp only[Act.put,bd])
 refine wpAnyH_ready (rs:=[9]) (by kernel_rfl) (by simp) (AllReadyH.cons rfl (fun K hK=>?_) AllReadyH.nil)
 go_simp
 refine(dx 0 (aN (c.q3 v).2).2.2.2.2.1 4 E _ (by decide)).mono ?_
 rintro e w8a ⟨fv1,rfl,K1,hF1,hf1,hK1⟩
 have H3:=ae (And.intro (show RR dm w7b w8a E fv1 (kT 0 (aN (c.q3 v).2).2.2.2.2.1 4) from⟨K1,hF1,hK1.mono (Nat.le_refl _)⟩) ((Fr.refl _ _).drew.trans hf1 (fun _ _ h=>h)))
 obtain⟨Fc1,caps1,rfl,_⟩:=hF1.ex
 clear hF1 hf1 hK1
 go_simp
 refine hK.out _ _ ((aa H3).2) (fun hHeld=>?_)
 clear hK K
 (try simp only[Act.put,bd])
 refine wpAnyH_ready (rs:=[10]) (by kernel_rfl) (by simp) (AllReadyH.cons rfl (fun K hK=>?_) AllReadyH.nil)
 go_simp
 refine hK.out _ _ ((aa H3).2.alloc _) (fun hHeld=>?_)
 clear hK K
 (try simp only[Act.put,bd])
 refine wpAnyH_done (by kernel_rfl) ?_ _
 simp only[fB]
 go_simp
 have hT7:=aa HT7b
 have hfa:=(aa H3).2.trans (al w8a (.cells #[.func (.func Fc1) #[] caps1] 255)) (fun _ _ h=>h)
 have hru:=(lA 255 hT7.C (hT7.L (o+8)) (aa H3).2 (aa H3).1).ex
 have hXa:jF (w8a.alloc (.cells #[.func (.func Fc1) #[] caps1] 255)) (c.q7 v).1 x v.fs F7b g:=(aa HX).aP (hT7.s.trans (ar.bh hfa F7b (fun _ _=>False)) (fun _ _ _ h=>h.elim)) (fun k i _ h=>h.1) (aa HR).2.2.2.2.2.2.2.2.2.1 (aa HR).2.2.2.2.2.2.2.2.2.2
 refine(lQ (c.q7 v).1 (aN (c.q3 v).2).2.2.2.2.2.2 [kT 0 (aN (c.q3 v).2).2.2.2.2.1 4] (some ⟨w8a.heap.size,0,none⟩) 1 x v.fs cb b g (o+8) F7b E _ (hT7.C.aR hfa) (aq hfa hT7.r.c8) hXa ((hT7.L _).aR hfa) (by obtain⟨K,h1,h2⟩:=hru;exact⟨K,h1,fun k hk=>(h2 k hk).1⟩) (by simp) (CS.room_le (aa HR).2.2.2.2.2.2.2.1 (by decide))).mono ?_
 rintro e w8 ⟨rfl,F8,x8,hC8,hx8,hO8,hs8⟩
 have hs8':ar w7b w8 F7b F8 (fun k j=>k=g∧j=o+8):=(ar.bh hfa F7b _).trans hs8 (fun _ _ _ h=>h)
 have HT8:Hid (ff w w8 cb b g o F F8 (c.q8 v).1 E ⟨(c.q1 v).2.1,(c.q1 v).2.2,(c.q2 v).2,(c.q3 v).2,(c.q4 v).2,(c.q5 v).2,(c.q6 v).2,(c.q7 v).2,v.fs,v.rs⟩ x8):=hT7.s8 x8 hC8 hx8 hs8'
 have HB8:=ae ((aa HB7b).aP hs8' (fun i h=>(aa HB7b).ng h.1))
 have hszF:=hfa.size
 have hsz7:=hT7.s.size
 have HO8:Hid ((∀ s,c = .wr s→x8=x)∧(∀ q,c = .rd q→fH w8 w.heap.size x8 (c.q8 v).2 F8)):=by
  refine⟨fun s e=>?_,fun q e=>?_⟩
  ·subst e
   cases hm:((CS.wr s).q7 v).1 with
   | wr s'=>exact hO8.wr s' hm
   | rd q'=>obtain⟨_,e'⟩:=(aa HR).2.2.2.2.2.2.2.2.2.2 q' hm;cases e'
  ·subst e
   cases hm:((CS.rd q).q7 v).1 with
   | wr s'=>obtain⟨_,e'⟩:=(aa HR).2.2.2.2.2.2.2.2.2.1 s' hm;cases e'
   | rd q' =>
    have h9:=hO8.rd q' hm
    exact⟨h9.nF,aH h9.row (by omega),h9.ok⟩
 clear hT7 hfa hru hXa hC8 hx8 hO8 hs8 hs8' H3 HK8 hszF hsz7
 have HRN:Hid (∀ (w9:World),Fr (fun _=>False) w8 w9→Calls Tryz.prog 135 #[.pointer (some ⟨cb,0,none⟩),.string eb,.pointer (some ⟨g,o+9,none⟩),.int .i64 0,.int .i64 64,.slice (some ⟨w9.heap.size,0,none⟩) 1 1] (w9.alloc (.cells #[.func (.func 136) #[] #[.pointer (some ⟨lb,0,none⟩)]] 281)) fun e w'=>e = .returned (.tuple #[])∧∃ F',Cd w' cb b F' (c.q9 v).1 E∧w'.cell? ⟨g,o+9,none⟩=some (.string (c.q9 v).2)∧ar w8 w' F8 F' (fun k j=>k=g∧j=o+9)):=fun w9 hf9=>by
  have hT8:=aa HT8
  have hB8:=aa HB8
  have hf2:=hf9.trans (al w9 (.cells #[.func (.func 136) #[] #[.pointer (some ⟨lb,0,none⟩)]] 281)) (fun _ _ h=>h)
  have hfn:=vT (aN (c.q3 v).2).2.2.2.2.2.1 lb E w9 (aq hf9 hB8.c5) (hT8.C.g7.fr hf9 (fun _ h=>h.elim))
  refine(pg (c.q8 v).1 eb 0 64 [Ak (aN (c.q3 v).2).2.2.2.2.2.1] v.rs cb b g (o+9) F8 E _ _ (hT8.C.aR hf2) (aq hf2 hT8.r.c9) ((hT8.L _).aR hf2) (aa HV).rs (by decide) (wA _ hT8.C (hT8.L (o+9)) hfn hf9 (fun k hk=>?_)) (by simp) (CS.room_le (aa HR).2.2.2.2.2.2.2.2.1 (by decide))).mono ?_
  ·rcases hk with rfl|rfl
   ·exact⟨hB8.nF,hB8.ng⟩
   ·have hlo:=(hT8.L 0).lo
    exact⟨fun hx=>by have:=hT8.C.lo _ hx;omega,by omega⟩
  ·rintro e w' ⟨rfl,F',hC,hc,hs⟩
   exact⟨rfl,F',hC,hc,(ar.bh hf2 F8 _).trans hs (fun _ _ _ h=>h)⟩
 go_wp2_with fail
 refine((aa HRN) w8 (Fr.refl _ _)).mono ?_
 rintro e w10 ⟨rfl,F10,hC10,hc10,hs10⟩
 have hT10:=(aa HT8).s9 _ hC10 hc10 hs10
 have hs010:=(aa HT8).s.size
 have HE:Hid (Cd w10 cb b F10 (c.aZ v).1 E∧ou w10 g o { (c.aZ v).2 with fs:=v.fs } x8∧kg w w10 c x x8 (c.aZ v).2.fs F10∧ar w w10 F F10 (aC g o 10)):=by
  refine⟨hT10.C,hT10.r,⟨fun s e=>(aa HO8).1 s e,fun q e=>?_⟩,hT10.s⟩
  have hgw:=((aa HT0).L 0).lt
  exact((aa HO8).2 q e).aP hs10 (fun k j hb _ h=>by omega)
 clear hT10 hC10 hc10 hs10 hs010 HRN HO8 HT8 HB8 HT0 HT1 HT2 HT4 HT6 HX HR HV
 go_wp2_with fail
 go_end0
 exact⟨rfl,F10,x8,(aa HE).1,(aa HE).2.1,(aa HE).2.2.1,(aa HE).2.2.2⟩
structure gw where
 pl:Nat
 rq:dv
 co:Nat
 dg:List Nat
structure gw.ok (v:gw):Prop where
 pl:v.pl<4294967296
 rq:v.rq.ok
 co:v.co<256
def CS.e1 (c:CS) (v:gw):CS × Nat:=c.bL jA [] v.pl
def CS.e2 (c:CS) (v:gw):CS × dv:=(c.e1 v).1.aZ v.rq
def CS.e3 (c:CS) (v:gw):CS × Nat:=(c.e2 v).1.qg v.co
def CS.e4 (c:CS) (v:gw):CS × List Nat:=(c.e3 v).1.bA fS v.dg
def CS.bD (c:CS) (v:gw):CS × gw:=((c.e4 v).1,⟨(c.e1 v).2,(c.e2 v).2,(c.e3 v).2,(c.e4 v).2⟩)
theorem CS.ef (c:CS) (v:dv):c.sm (c.aZ v).1:=CS.ax (CS.ax (CS.ax (CS.ax (CS.ax (CS.ax (CS.ax (CS.ax (c.gO _) (CS.bo _ _ _ _)) (CS.dL _ _ _ _)) (CS.bo _ _ _ _)) (CS.bo _ _ _ _)) (CS.bo _ _ _ _)) (CS.bo _ _ _ _)) (CS.eQ _ _ _ _)) (CS.Az _ _ _ _ _)
theorem CS.dX {c:CS} {n:Nat} (h:c.room (n+140)) (v:dv):(c.aZ v).1.room n:=by
 have R1:(c.q1 v).1.room (n+138):=CS.ej h _
 have R2:(c.q2 v).1.room (n+137):=CS.aF R1 _ _ _
 have R3:(c.q3 v).1.room (n+136):=CS.ch R2 _ _ _
 have R4:(c.q4 v).1.room (n+135):=CS.aF R3 _ _ _
 have R5:(c.q5 v).1.room (n+134):=CS.aF R4 _ _ _
 have R6:(c.q6 v).1.room (n+133):=CS.aF R5 _ _ _
 have R7:(c.q7 v).1.room (n+132):=CS.aF R6 _ _ _
 have R8:(c.q8 v).1.room (n+3):=CS.dN R7 _ _ _
 have R9:(c.q9 v).1.room (n+2):=CS.fV R8 _ _ _ _
 exact CS.room_le R9 (by omega)
theorem ou.aP {w w':World} {g o:Nat} {v:dv} {x:Value} {F F':Nat→Prop} {P:Nat→Nat→Prop} (h:ou w g o v x) (hs:ar w w' F F' P) (hg:¬ F g) (hP:∀ i,i<10→¬ P g (o+i)):ou w' g o v x:=
 ⟨(hs.oth g (o+0) (ab h.c0) hg (hP 0 (by decide))).trans h.c0,(hs.oth g (o+1) (ab h.c0) hg (hP 1 (by decide))).trans h.c1,(hs.oth g (o+2) (ab h.c0) hg (hP 2 (by decide))).trans h.c2,(hs.oth g (o+3) (ab h.c0) hg (hP 3 (by decide))).trans h.c3,(hs.oth g (o+4) (ab h.c0) hg (hP 4 (by decide))).trans h.c4,(hs.oth g (o+5) (ab h.c0) hg (hP 5 (by decide))).trans h.c5,(hs.oth g (o+6) (ab h.c0) hg (hP 6 (by decide))).trans h.c6,(hs.oth g (o+7) (ab h.c0) hg (hP 7 (by decide))).trans h.c7,(hs.oth g (o+8) (ab h.c0) hg (hP 8 (by decide))).trans h.c8,(hs.oth g (o+9) (ab h.c0) hg (hP 9 (by decide))).trans h.c9⟩
theorem kg.aP {w w1 w2:World} {c:CS} {x x':Value} {l:List cj} {F1 F2:Nat→Prop} {P:Nat→Nat→Prop} {g:Nat} (h:kg w w1 c x x' l F1) (hs:ar w1 w2 F1 F2 P) (hg:g<w.heap.size) (hP:∀ k j,k<w1.heap.size→P k j→k=g):kg w w2 c x x' l F2:=
 ⟨h.wr,fun q e=>(h.rd q e).aP hs (fun k j hb hk hp=>by have:=hP k j hk hp;omega)⟩
theorem kg.of {w0 w w':World} {c c':CS} {x x':Value} {l:List cj} {F':Nat→Prop} (h:kg w w' c' x x' l F') (hm:c.sm c') (hs:w0.heap.size≤w.heap.size):kg w0 w' c x x' l F':=by
 refine⟨fun s e=>?_,fun q e=>?_⟩
 ·cases hc:c' with
  | wr s'=>exact h.wr s' hc
  | rd q'=>obtain⟨_,e'⟩:=hm.2 q' hc;rw[e] at e';cases e'
 ·cases hc:c' with
  | wr s'=>obtain⟨_,e'⟩:=hm.1 s' hc;rw[e] at e';cases e'
  | rd q' =>
   have h9:=h.rd q' hc
   exact⟨h9.nF,aH h9.row hs,h9.ok⟩
structure rA (w:World) (g o:Nat) (v:gw) (x y:Value):Prop where
 c0:w.cell? ⟨g,o,none⟩=some (.int .u32 (v.pl:Nat))
 r:ou w g (o+1) v.rq x
 c11:w.cell? ⟨g,o+11,none⟩=some (.int .u8 (v.co:Nat))
 c12:w.cell? ⟨g,o+12,none⟩=some y
theorem nZ (c:CS) (v:gw) (x y:Value) (cb b g o:Nat) (F:Nat→Prop) (E:Nat→Addr) (w:World) (h:Cd w cb b F c E) (hp:rA w g o v x y) (hX:jF w c x v.rq.fs F g) (hY:n5 w y v.dg F g) (hL:∀ i,Loc w cb F g i) (hv:v.ok) (hroom:c.room 230) :
  Calls Tryz.prog 110 #[.pointer (some ⟨cb,0,none⟩),.pointer (some ⟨g,o,none⟩)] w fun e w'=>e = .returned (.tuple #[])∧∃ F' x' y',Cd w' cb b F' (c.bD v).1 E∧rA w' g o { (c.bD v).2 with rq:={ (c.bD v).2.rq with fs:=v.rq.fs } } x' y'∧kg w w' c x x' (c.bD v).2.rq.fs F'∧BO w w' c y' (c.bD v).2.dg F' g∧ar w w' F F' (aC g o 13):=by
 have R1:(c.e1 v).1.room 229:=CS.aF hroom _ _ _
 have R2:(c.e2 v).1.room 89:=CS.dX R1 _
 have R3:(c.e3 v).1.room 88:=CS.ch R2 _ _ _
 have M1:c.sm (c.e1 v).1:=CS.bo _ _ _ _
 have M3:c.sm (c.e3 v).1:=CS.ax (CS.ax M1 (CS.ef _ _)) (CS.dL _ _ _ _)
 have hgw:=(hL 0).lt
 have hgF:=(hL 0).nF
 have HR:=ae (And.intro R1 (And.intro R2 (And.intro R3 (And.intro M1 M3))))
 have HV:=ae hv
 have HI:=ae (bJ c jA [] v.pl cb b g o F E (.slice none 0 0) w h hp.c0 (hL _) hv.pl (ij.nil _ w F g E) (CS.room_le hroom (by decide)))
 have H:=ae (And.intro hp (And.intro hX (And.intro hY hL)))
 clear h hp hX hY hL hv hroom R1 R2 R3 M1 M3
 go_enter Tryz.func110,Tryz.ntmps110
 go_wp2_with fail
 refine(aa HI).mono ?_
 rintro e w1 ⟨rfl,F1,hC1,hc1,hs1⟩
 obtain⟨hp,hX,hY,hL⟩:=aa H
 have hL1:=fun i=>(hL i).aP hs1
 have hr1:ou w1 g (o+1) v.rq x:=hp.r.aP hs1 hgF (fun i hi h=>by omega)
 have hX1:jF w1 (c.e1 v).1 x v.rq.fs F1 g:=hX.aP hs1 (fun k i _ h=>h.1) (aa HR).2.2.2.1.1 (aa HR).2.2.2.1.2
 have HQ:=ae (gL (c.e1 v).1 v.rq x cb b g (o+1) F1 E w1 hC1 hr1 hX1 hL1 (aa HV).rq (CS.room_le (aa HR).1 (by decide)))
 have H1:=ae (And.intro hc1 (And.intro ((hs1.oth g (o+11) hgw hgF (fun h=>by omega)).trans hp.c11) (And.intro ((hs1.oth g (o+12) hgw hgF (fun h=>by omega)).trans hp.c12) (And.intro hs1 (And.intro hL1 (hY.aP hs1 (fun k i _ h=>h.1)))))))
 clear hp hX hY hL hL1 hr1 hX1 hC1 hc1 hs1 HI
 go_wp2_with fail
 refine(aa HQ).mono ?_
 rintro e w2 ⟨rfl,F2,x2,hC2,hr2,hO2,hs2⟩
 obtain⟨hc1,h11,h12,hs1,hL1,hY1⟩:=aa H1
 have hg1:=(hL1 0).lt
 have hgF1:=(hL1 0).nF
 have hL2:=fun i=>(hL1 i).aP hs2
 have d0:w2.cell? ⟨g,o,none⟩=some (.int .u32 ((c.e1 v).2:Nat)):=(hs2.oth g o hg1 hgF1 (fun h=>by have:=h.2;omega)).trans hc1
 have d11:w2.cell? ⟨g,o+11,none⟩=some (.int .u8 (v.co:Nat)):=(hs2.oth g (o+11) hg1 hgF1 (fun h=>by have:=h.2;omega)).trans h11
 have d12:w2.cell? ⟨g,o+12,none⟩=some y:=(hs2.oth g (o+12) hg1 hgF1 (fun h=>by have:=h.2;omega)).trans h12
 have hs02:ar w w2 F F2 (aC g o 13):=(hs1.mono (P':=aC g o 13) (fun k j _ h=>⟨h.1,by omega,by omega⟩)).trans hs2 (fun k j _ h=>⟨h.1,by have:=h.2;omega,by have:=h.2;omega⟩)
 have hO2':=hO2.of (aa HR).2.2.2.1 hs1.size
 have HD:=ae (qd (c.e2 v).1 v.co cb b g (o+11) F2 E w2 hC2 d11 (hL2 _) (aa HV).co (CS.room_le (aa HR).2.1 (by decide)))
 have H2:=ae (And.intro d0 (And.intro hr2 (And.intro d12 (And.intro hs02 (And.intro hL2 (And.intro hO2' (hY1.aP hs2 (fun k i _ h=>h.1))))))))
 clear hc1 h11 h12 hs1 hL1 hY1 hg1 hgF1 hL2 d0 d11 d12 hs02 hO2' hC2 hr2 hO2 hs2 H1 HQ
 go_wp2_with fail
 refine(aa HD).mono ?_
 rintro e w3 ⟨rfl,F3,hC3,hc3,hs3⟩
 obtain⟨d0,hr2,d12,hs02,hL2,hO2,hY2⟩:=aa H2
 have hg2:=(hL2 0).lt
 have hgF2:=(hL2 0).nF
 have hL3:=fun i=>(hL2 i).aP hs3
 have hY3:=hY2.aP hs3 (fun k i _ h=>h.1)
 have t12:w3.cell? ⟨g,o+12,none⟩=some y:=(hs3.oth g (o+12) hg2 hgF2 (fun h=>by omega)).trans d12
 have HG:=ae (mh (c.e3 v).1 fS y v.dg cb b g (o+12) F3 E w3 hC3 t12 hY3.bv (hL3 _) hY3.len (CS.room_le (aa HR).2.2.1 (by decide)))
 have H3:=ae (And.intro hC3 (And.intro hY3 (And.intro ((hs3.oth g o hg2 hgF2 (fun h=>by omega)).trans d0) (And.intro (hr2.aP hs3 hgF2 (fun i hi h=>by omega)) (And.intro hc3 (And.intro (hs02.trans hs3 (fun k j _ h=>⟨h.1,by omega,by omega⟩)) (And.intro hL3 (hO2.aP hs3 hgw (fun k j _ h=>h.1)))))))))
 clear d0 hr2 d12 hs02 hL2 hO2 hY2 hg2 hgF2 hL3 hY3 t12 hC3 hc3 hs3 H2 HD
 go_wp2_with fail
 refine(aa HG).mono ?_
 rintro e w4 ⟨rfl,F4,y4,hC4,hy4,ho4,hn4,hs4⟩
 obtain⟨hC3,hY3,t0,hr3,hc3,hs03,hL3,hO3⟩:=aa H3
 have hg3:=(hL3 0).lt
 have hgF3:=(hL3 0).nF
 have hmd:∀ q,c = .rd q→∃ q',(c.e3 v).1 = .rd q':=fun q hq=>by
  cases hm:(c.e3 v).1 with
  | wr s'=>obtain⟨_,e'⟩:=(aa HR).2.2.2.2.1 s' hm;rw[hq] at e';cases e'
  | rd q'=>exact⟨q',rfl⟩
 have hbo:BO w w4 c y4 (c.e4 v).2 F4 g:=(wC hC3 hY3 hg3 hs4 ho4 hn4).mode hs03.size hmd
 have HE:Hid (Cd w4 cb b F4 (c.bD v).1 E∧rA w4 g o { (c.bD v).2 with rq:={ (c.bD v).2.rq with fs:=v.rq.fs } } x2 y4∧kg w w4 c x x2 (c.bD v).2.rq.fs F4∧BO w w4 c y4 (c.bD v).2.dg F4 g∧ar w w4 F F4 (aC g o 13)):=
  ⟨hC4,⟨(hs4.oth g o hg3 hgF3 (fun h=>by omega)).trans t0,hr3.aP hs4 hgF3 (fun i hi h=>by omega),(hs4.oth g (o+11) hg3 hgF3 (fun h=>by omega)).trans hc3,hy4⟩,hO3.aP hs4 hgw (fun k j _ h=>h.1),hbo,hs03.trans hs4 (fun k j _ h=>⟨h.1,by omega,by omega⟩)⟩
 clear hC3 hY3 t0 hr3 hc3 hs03 hL3 hO3 hg3 hgF3 hbo hmd hC4 hy4 ho4 hn4 hs4 H3 HG
 go_wp2_with fail
 go_end0
 exact⟨rfl,F4,x2,y4,(aa HE).1,(aa HE).2.1,(aa HE).2.2.1,(aa HE).2.2.2.1,(aa HE).2.2.2.2⟩
structure dB where
 au:Nat
 ev:Nat
 fi:Nat
 re:Bool
structure dB.ok (v:dB):Prop where
 au:v.au<4294967296
 ev:v.ev<4294967296
 fi:v.fi<4294967296
def dB.gone (v:dB):Nat:=if v.re=true then 1 else 0
def CS.s1 (c:CS) (v:dB):CS × Nat:=c.bL eL [] v.au
def CS.s2 (c:CS) (v:dB):CS × Nat:=(c.s1 v).1.bL jx [] v.ev
def CS.s3 (c:CS) (v:dB):CS × Nat:=(c.s2 v).1.bL lP [] v.fi
def CS.s4 (c:CS) (v:dB):CS × Nat:=(c.s3 v).1.fe jM [bC 0 1 4] v.gone
def CS.aB (c:CS) (v:dB):CS × dB:=((c.s4 v).1,⟨(c.s1 v).2,(c.s2 v).2,(c.s3 v).2,(((c.s4 v).2:Nat):Int) == 1⟩)
theorem CS.pN (c:CS) (v:dB) (h:v.ok):(c.aB v).2.ok:=⟨CS.kN _ _ _ _ h.au,CS.kN _ _ _ _ h.ev,CS.kN _ _ _ _ h.fi⟩
theorem CS.kj (c:CS) (v:dB):c.sm (c.aB v).1:=CS.ax (CS.ax (CS.ax (CS.bo _ _ _ _) (CS.bo _ _ _ _)) (CS.bo _ _ _ _)) (CS.dL _ _ _ _)
theorem CS.iy {c:CS} {n:Nat} (h:c.room (n+4)) (v:dB):(c.aB v).1.room n:=CS.ch (CS.aF (CS.aF (CS.aF h _ _ _) _ _ _) _ _ _) _ _ _
structure Dc (w:World) (g:Nat) (v:dB):Prop where
 c0:w.cell? ⟨g,0,none⟩=some (.int .u32 (v.au:Nat))
 c1:w.cell? ⟨g,1,none⟩=some (.int .u32 (v.ev:Nat))
 c2:w.cell? ⟨g,2,none⟩=some (.int .u32 (v.fi:Nat))
 c3:w.cell? ⟨g,3,none⟩=some (.bool v.re)
theorem ke (c:CS) (v:dB) (cb b g:Nat) (F:Nat→Prop) (E:Nat→Addr) (w:World) (h:Cd w cb b F c E) (hp:Dc w g v) (hL:∀ i,Loc w cb F g i) (hv:v.ok) (hroom:c.room 4) :
  Calls Tryz.prog 139 #[.pointer (some ⟨cb,0,none⟩),.pointer (some ⟨g,0,none⟩)] w fun e w'=>e = .returned (.tuple #[])∧∃ F',Cd w' cb b F' (c.aB v).1 E∧Dc w' g (c.aB v).2∧ar w w' F F' (aC g 0 4):=by
 have hsf:=cO
 have R1:(c.s1 v).1.room 3:=CS.aF hroom _ _ _
 have R2:(c.s2 v).1.room 2:=CS.aF R1 _ _ _
 have R3:(c.s3 v).1.room 1:=CS.aF R2 _ _ _
 have HR:=ae (And.intro R1 (And.intro R2 R3))
 have HV:=ae hv
 have hgw:=(hL 0).lt
 have hgF:=(hL 0).nF
 have HI:=ae (bJ c eL [] v.au cb b g 0 F E (.slice none 0 0) w h hp.c0 (hL _) hv.au (ij.nil _ w F g E) (CS.room_le hroom (by decide)))
 have H:=ae (And.intro hp hL)
 clear h hp hL hv hroom R1 R2 R3
 go_enter Tryz.func139,Tryz.ntmps139
 go_wp2_with fail
 refine(aa HI).mono ?_
 rintro e w1 ⟨rfl,F1,hC1,hc1,hs1⟩
 obtain⟨hp,hL⟩:=aa H
 have hL1:=fun i=>(hL i).aP hs1
 have HI2:=ae (bJ (c.s1 v).1 jx [] v.ev cb b g 1 F1 E (.slice none 0 0) w1 hC1 ((hs1.oth g 1 hgw hgF (fun h=>by omega)).trans hp.c1) (hL1 _) (aa HV).ev (ij.nil _ w1 F1 g E) (CS.room_le (aa HR).1 (by decide)))
 have H1:=ae (And.intro hc1 (And.intro ((hs1.oth g 2 hgw hgF (fun h=>by omega)).trans hp.c2) (And.intro ((hs1.oth g 3 hgw hgF (fun h=>by omega)).trans hp.c3) (And.intro hs1 hL1))))
 clear hp hL hL1 hC1 hc1 hs1 HI
 go_wp2_with fail
 refine(aa HI2).mono ?_
 rintro e w2 ⟨rfl,F2,hC2,hc2,hs2⟩
 obtain⟨hc1,h2,h3,hs1,hL1⟩:=aa H1
 have hg1:=(hL1 0).lt
 have hgF1:=(hL1 0).nF
 have hL2:=fun i=>(hL1 i).aP hs2
 have HI3:=ae (bJ (c.s2 v).1 lP [] v.fi cb b g 2 F2 E (.slice none 0 0) w2 hC2 ((hs2.oth g 2 hg1 hgF1 (fun h=>by omega)).trans h2) (hL2 _) (aa HV).fi (ij.nil _ w2 F2 g E) (CS.room_le (aa HR).2.1 (by decide)))
 have H2:=ae (And.intro ((hs2.oth g 0 hg1 hgF1 (fun h=>by omega)).trans hc1) (And.intro hc2 (And.intro ((hs2.oth g 3 hg1 hgF1 (fun h=>by omega)).trans h3) (And.intro ((hs1.mono (P':=aC g 0 4) (fun k j _ h=>⟨h.1,by omega,by omega⟩)).trans hs2 (fun k j _ h=>⟨h.1,by omega,by omega⟩)) hL2))))
 clear hc1 h2 h3 hs1 hL1 hg1 hgF1 hL2 hC2 hc2 hs2 H1 HI2
 go_wp2_with fail
 refine(aa HI3).mono ?_
 rintro e w3 ⟨rfl,F3,hC3,hc3,hs3⟩
 obtain⟨d0,d1,d3,hs02,hL2⟩:=aa H2
 have hg2:=(hL2 0).lt
 have hgF2:=(hL2 0).nF
 have hL3:=fun i=>(hL2 i).aP hs3
 have t3:w3.cell? ⟨g,3,none⟩=some (.bool v.re):=(hs3.oth g 3 hg2 hgF2 (fun h=>by omega)).trans d3
 have H3:=ae (And.intro hC3 (And.intro ((hs3.oth g 0 hg2 hgF2 (fun h=>by omega)).trans d0) (And.intro ((hs3.oth g 1 hg2 hgF2 (fun h=>by omega)).trans d1) (And.intro hc3 (And.intro t3 (And.intro (hs02.trans hs3 (fun k j _ h=>⟨h.1,by omega,by omega⟩)) hL3))))))
 have hg3:=(hL3 0).lt
 clear d0 d1 d3 hs02 hL2 hg2 hgF2 hL3 hC3 hc3 hs3 H2 HI3
 have HF:Hid (∀ (n:Nat) (w4:World),n=v.gone→w4=w3.alloc (.cells #[.int .u8 (n:Nat)] 5)→Calls Tryz.prog 128 #[.int .u8 0,.int .u8 1,ba E 4] w4 fun e w5=>∃ Fc caps,e = .returned (.func (.func Fc) #[] caps)∧Calls Tryz.prog 127 #[.pointer (some ⟨cb,0,none⟩),.string jM,.pointer (some ⟨w3.heap.size,0,none⟩),.slice (some ⟨w5.heap.size,0,none⟩) 1 1] (w5.alloc (.cells #[.func (.func Fc) #[] caps] 241)) fun e w'=>e = .returned (.tuple #[])∧∃ F',w'.cell? ⟨w3.heap.size,0,none⟩=some (.int .u8 ((c.s4 v).2:Nat))∧w'.cell? ⟨g,3,none⟩=some (.bool v.re)∧w'.frozen? ⟨g,3,none⟩=false∧∀ V,V=w'.setCell ⟨g,3,none⟩ (.bool ((((c.s4 v).2:Nat):Int) == 1))→Cd V cb b F' (c.aB v).1 E∧Dc V g (c.aB v).2∧ar w V F F' (aC g 0 4)):=by
  rintro n w4 hn rfl
  refine(dA 0 1 4 E _ (by decide)).mono ?_
  rintro e w5 ⟨fv,rfl,K0,hF,hf,hK⟩
  obtain⟨hC3,d0,d1,d2,t3,hs03,hL3⟩:=aa H3
  have hbx:=al w3 (.cells #[.int .u8 (n:Nat)] 5)
  have hC4:=hC3.aR hbx
  have hL4:=hC3.box #[.int .u8 (n:Nat)] 5 0
  have hn256:n<256:=by rw[hn];unfold dB.gone;split <;> decide
  have hnum:=pC (nm:=jM) 241 hC4 (by simp) hL4 hn256 hF hf hK (aa HR).2.2
  obtain⟨Fc,caps,rfl,_⟩:=hF.ex
  refine⟨Fc,caps,rfl,hnum.mono ?_⟩
  rintro e w6 ⟨rfl,F6,hC6,hc6,hs6⟩
  have hs36:ar w3 w6 F3 F6 (fun k j=>k=w3.heap.size∧j=0):=(ar.bh hbx F3 _).trans hs6 (fun _ _ _ h=>h)
  have hoth:∀ i v',w3.cell? ⟨g,i,none⟩=some v'→w6.cell? ⟨g,i,none⟩=some v':=fun i v' hv'=>(hs36.oth g i (hL3 0).lt (hL3 0).nF (fun h=>by have:=(hL3 0).lt;omega)).trans hv'
  have hL6:=fun i=>(hL3 i).aP hs36
  subst hn
  refine⟨rfl,F6,hc6,hoth 3 _ t3,(hL6 3).fz,?_⟩
  rintro V rfl
  have hset:∀ i,i≠3→∀ v':Value,(w6.setCell ⟨g,3,none⟩ v').cell? ⟨g,i,none⟩=w6.cell? ⟨g,i,none⟩:=fun i hi v'=>World.cell?_setCell_other _ _ _ _ (by intro e;injection e with _ e2 _;exact hi e2.symm)
  refine⟨hC6.fr ((Fr.refl (fun k=>k=g) _).setCell (.inl rfl) _) (fun k hk e=>(hL6 0).nF (e ▸ hk)) (fun e=>(hL6 0).nc e.symm) (fun k e=>by rw[e];exact(hL6 0).lo),⟨(hset 0 (by decide) _).trans (hoth 0 _ d0),(hset 1 (by decide) _).trans (hoth 1 _ d1),(hset 2 (by decide) _).trans (hoth 2 _ d2),World.cell?_setCell_same _ _ _ (hoth 3 _ t3)⟩,?_⟩
  exact(hs03.trans hs36 (fun k j hk h=>by have:=hs03.size;omega)).trans (ar.set g 3 _) (fun k j _ h=>⟨h.1,by omega,by omega⟩)
 have k4:=(aa H3).1.g7.k4
 have hk40:(w3.alloc (.cells #[.int .u8 0] 5)).cell? ⟨4,0,none⟩=some (ba E 4):=aq (al _ _) k4
 have hk41:(w3.alloc (.cells #[.int .u8 1] 5)).cell? ⟨4,0,none⟩=some (ba E 4):=aq (al _ _) k4
 have hlg3:=ab t3
 have hl4:=ab (aa H3).1.g7.k4
 clear k4 H3
 cases hre:v.re with
 | false =>
  rw[hre] at t3
  have HF0:=ae ((aa HF) 0 (w3.alloc (.cells #[.int .u8 0] 5)) (by simp[dB.gone,hre]) rfl)
  clear HF hk41
  go_wp2_with fail
  refine(aa HF0).mono ?_
  rintro e w5 ⟨Fc,caps,rfl,hcall⟩
  have HC:=ae hcall
  clear hcall HF0
  go_wp2_with fail
  refine(aa HC).mono ?_
  rintro e w6 ⟨rfl,F6,hc6,hc3,hz3,hfin⟩
  have HFIN:=ae hfin
  clear hfin HC t3 hk40 hre
  go_wp2_with fail
  go_end0
  obtain⟨z1,z2,z3⟩:=(aa HFIN) _ rfl
  exact⟨rfl,F6,z1,z2,z3⟩
 | true =>
  rw[hre] at t3
  have HF0:=ae ((aa HF) 1 (w3.alloc (.cells #[.int .u8 1] 5)) (by simp[dB.gone,hre]) rfl)
  clear HF hk40
  go_wp2_with fail
  refine(aa HF0).mono ?_
  rintro e w5 ⟨Fc,caps,rfl,hcall⟩
  have HC:=ae hcall
  clear hcall HF0
  go_wp2_with fail
  refine(aa HC).mono ?_
  rintro e w6 ⟨rfl,F6,hc6,hc3,hz3,hfin⟩
  have HFIN:=ae hfin
  clear hfin HC t3 hk41 hre
  go_wp2_with fail
  go_end0
  obtain⟨z1,z2,z3⟩:=(aa HFIN) _ rfl
  exact⟨rfl,F6,z1,z2,z3⟩
def dB.vs (f:dB):List Value:=[.int .u32 (f.au:Nat),.int .u32 (f.ev:Nat),.int .u32 (f.fi:Nat),.bool f.re]
def BZ (l:List dB):List Value:=l.flatMap dB.vs
theorem Av (a b:List dB):BZ (a++b)=BZ a++BZ b:=by simp[BZ]
theorem Tryz.zU:(Tryz.prog.info? 161).map (fun i=>(i.zero,i.size,i.bytes))=some (some (.agg #[.int .u32 0,.int .u32 0,.int .u32 0,.bool false]),4,16):=by kernel_rfl
structure jN (w:World) (base:Nat) (x:Value) (l:List dB) (F:Nat→Prop):Prop where
  nF:∀ k,x.ownBlock=some k→¬ F k
  row:w.ownsRow base 161 4 x l.length (BZ l)
  ok:∀ f∈l,f.ok
theorem jN.nil (w:World) (base:Nat) (F:Nat→Prop):jN w base (.slice none 0 0) [] F:=⟨fun _ h=>(by cases h),⟨rfl,.inl ⟨rfl,rfl⟩⟩,fun _ h=>(by cases h)⟩
theorem jN.aP {w w':World} {base:Nat} {x:Value} {l:List dB} {F F':Nat→Prop} {P:Nat→Nat→Prop} (h:jN w base x l F) (hs:ar w w' F F' P) (hP:∀ k j,base≤k→k<w.heap.size→¬ P k j):jN w' base x l F':=
  ⟨fun k hk=>hs.nF (h.row.lt k hk).2 (h.nF k hk),av h.row (fun k hk=>hs.block (h.row.lt k hk).2 (h.nF k hk) (fun j=>hP k j (h.row.lt k hk).1 (h.row.lt k hk).2)),h.ok⟩
theorem jN.app {w:World} {base:Nat} {v:Value} {l:List dB} {F:Nat→Prop} (h:jN w base v l F) (f:dB) (hf:f.ok) (hb:base≤w.heap.size) (hF:∀ k,F k→k<w.heap.size) (hl:l.length≤1000000) :
    ∃ ao cap w',(Builtin.append_ #[31,31] 31 #[v,.slice (some ⟨w.heap.size,0,none⟩) 1 1]).run Tryz.prog (w.alloc (.cells #[.int .u32 (f.au:Nat),.int .u32 (f.ev:Nat),.int .u32 (f.fi:Nat),.bool f.re] 161)) = .ok (.slice ao (l.length+1) cap) w'∧jN w' base (.slice ao (l.length+1) cap) (l++[f]) F∧Fr (fun g=>v.ownBlock=some g) w w':=by
  obtain⟨i0,hi,hz0,hz1,hz2⟩:=info_parts Tryz.zU
  have hb':=av (w':=w.alloc (.cells #[.int .u32 (f.au:Nat),.int .u32 (f.ev:Nat),.int .u32 (f.fi:Nat),.bool f.re] 161)) h.row (fun g hg=>Below.heap_alloc _ _ _ (h.row.lt g hg).2)
  obtain⟨v',w',hr,h2,h3,_,h5⟩:=run_append_own_at (P:=Tryz.prog) (w:=w.alloc (.cells #[.int .u32 (f.au:Nat),.int .u32 (f.ev:Nat),.int .u32 (f.fi:Nat),.bool f.re] 161)) base 31 31 161 i0 (.agg #[.int .u32 0,.int .u32 0,.int .u32 0,.bool false]) 4 16 Tryz.underlying31 hi hz0 hz1 hz2 rfl (by decide) v l.length (BZ l) hb' ⟨w.heap.size,0,none⟩ 1 1 f.vs rfl (fun j u hu=>by
    rw[addr_add,World.cell?_alloc_at _ _ _ _ rfl];simpa[dB.vs] using hu) (fun u hu=>by simp[dB.vs] at hu;rcases hu with rfl|rfl|rfl|rfl <;> rfl) (by simp only[maxLen];omega) (by omega) (by simp;omega)
  obtain⟨ao,cap,rfl⟩:=dS h2
  refine⟨ao,cap,w',hr,⟨fun k hk=>?_,by rw[Av,List.length_append,List.length_singleton];simpa[BZ] using h2,fun x hx=>?_⟩,((al w _).mono (fun _ _ h=>h.elim)).grown h3 (fun g hg=>.inl hg)⟩
  · rcases h5 with e|e
    · rw[e] at hk;exact h.nF k hk
    · rw[e] at hk
      cases hk
      exact fun hx=>by have:=hF _ hx;simp at this;omega
  · rcases List.mem_append.mp hx with hx|hx
    · exact h.ok x hx
    · rw[List.mem_singleton] at hx;rw[hx];exact hf
structure Cb (w:World) (xo:Option Addr) (xc:Nat) (l:List dB) (F:Nat→Prop):Prop where
  cap:l.length≤xc
  el:∀ (j:Nat) f,l[j]?=some f→f.ok∧∃ g o,xo=some ⟨g,o,none⟩∧¬ F g∧w.cell? ⟨g,o+j * 4,none⟩=some (.int .u32 (f.au:Nat))∧w.cell? ⟨g,o+j * 4+1,none⟩=some (.int .u32 (f.ev:Nat))∧w.cell? ⟨g,o+j * 4+2,none⟩=some (.int .u32 (f.fi:Nat))∧w.cell? ⟨g,o+j * 4+3,none⟩=some (.bool f.re)
theorem Cb.aP {w w':World} {xo:Option Addr} {xc:Nat} {l:List dB} {F F':Nat→Prop} {P:Nat→Nat→Prop} (h:Cb w xo xc l F) (hs:ar w w' F F' P) (hP:∀ g o,xo=some ⟨g,o,none⟩→∀ i,g<w.heap.size→¬ P g i):Cb w' xo xc l F':=by
  refine⟨h.cap,fun j f hf=>?_⟩
  obtain⟨h0,g,o,h1,h2,h3,h4,h5,h6⟩:=h.el j f hf
  have hlt:g<w.heap.size:=ab h3
  have hp:=fun i=>hP g o h1 i hlt
  exact⟨h0,g,o,h1,hs.nF hlt h2,(hs.oth g _ hlt h2 (hp _)).trans h3,(hs.oth g _ hlt h2 (hp _)).trans h4,(hs.oth g _ hlt h2 (hp _)).trans h5,(hs.oth g _ hlt h2 (hp _)).trans h6⟩
def hJ:dB:=⟨0,0,0,false⟩
theorem xJ:hJ.ok:=⟨by decide,by decide,by decide⟩
theorem lN (s:Wq) (cb b g i:Nat) (F:Nat→Prop) (E:Nat→Addr) (xo:Option Addr) (xc:Nat) (l:List dB) (w:World) (h:Cd w cb b F (.wr s) E) (hn:l.length<9223372036854775808) (hp:w.cell? ⟨g,i,none⟩=some (.slice xo l.length xc)) (hL:Loc w cb F g i) (hl:Cb w xo xc l F) (hroom:(CS.wr s).room 300) :
    Calls Tryz.prog 138 #[.pointer (some ⟨cb,0,none⟩),.string aK,.pointer (some ⟨g,i,none⟩),.int .i64 64,.func (.func 139) #[.pointer (some ⟨cb,0,none⟩)] #[],.slice none 0 0] w fun e w'=>e = .returned (.tuple #[])∧∃ F',Cd w' cb b F' (dK (fun c v=>c.aB v) ((CS.wr s).cv aK 64 (dU 64 []) l.length).1 (l.take (min l.length 64))) E∧ar w w' F F' (fun _ _=>False):=by
  have k2:=h.g7.k2
  have hl2:=ab k2
  have hsf:=cO
  have hent:∀ (x:Value) (W:World),(callFunc 139 (#[.pointer (some ⟨cb,0,none⟩),x])).run Tryz.prog W = .ok (.enter 139 (#[.pointer (some ⟨cb,0,none⟩),x])) W:=fun _ W=>enters Tryz.func139 rfl rfl _ W
  obtain⟨n,hnl⟩:∃ n,n=l.length:=⟨_,rfl⟩
  rw[← hnl] at hn hp ⊢
  have HNL:=ae hnl
  clear hnl
  have hhead:=fR (.wr s) aK n 64 [] cb b F E (.slice none 0 0) w h (by omega) (by decide) ⟨_,dC.nil _ w E,fun _ h=>h.elim⟩ (by decide) (by simp only[CS.room] at *;omega) 3
  obtain⟨c1,hc1⟩:∃ c1,c1=((CS.wr s).cv aK 64 (dU 64 []) n).1:=⟨_,rfl⟩
  have hn1:((CS.wr s).cv aK 64 (dU 64 []) n).2=n:=rfl
  have hroom1:c1.room 299:=by rw[hc1];exact CS.gU hroom _ _ _ _
  have hw1:∃ s,c1 = .wr s:=⟨_,hc1⟩
  rw[← hc1,hn1] at hhead
  rw[← hc1]
  clear hc1 hn1
  have HG:=ae hhead
  clear hhead
  obtain⟨N,hN⟩:∃ N,N=min n 64:=⟨_,rfl⟩
  rw[← hN]
  have hNn:N≤n:=by omega
  have hNm:N≤64:=by omega
  have HM:=ae hN
  clear hN
  have HW:=ae (dx 0 64 2 E (w.alloc (.cells #[.int .i64 n] 3)) (by decide))
  have H:=ae (And.intro h (And.intro hL (And.intro hl (And.intro hroom1 hw1))))
  have hlp:=hL.lt
  clear h hL hl hroom hroom1 hw1
  go_enter Tryz.func138,Tryz.ntmps138
  go_wp2_with fail
  refine(aa HW).mono ?_
  rintro e w1 ⟨fv,rfl,K0,hF,hf1,hK0⟩
  obtain⟨ao,cp,w2,hr,hcall⟩:=(aa HG) w1 fv K0 hF hf1 hK0 none 0 rfl
  obtain⟨Fc,caps,rfl,_⟩:=hF.ex
  have HR:=ae hr
  have HC:=ae hcall
  clear hF hf1 hK0 hr hcall
  go_wp2_with (at_builtin;refine br rfl _ _ 278 278 rfl _ _ _ rfl rfl (aa HR) ?_)
  refine(aa HC).mono ?_
  rintro e w3 ⟨rfl,F3,hC3,hn3,hlt3,hnF3,hs3⟩
  have H3:=ae (And.intro hC3 hs3)
  clear hC3 hs3 hlt3 hnF3
  by_cases hnm:n≤64
  all_goals
    go_wp2_with fail
    go_loopw [32] (fun iv wr=>∃ (k:Nat) (Fk:Nat→Prop),k≤N∧iv = .int .i64 (k:Nat)∧Cd wr cb b Fk (dK (fun c v=>c.aB v) c1 (l.take k)) E∧(∃ s',dK (fun c v=>c.aB v) c1 (l.take k) = .wr s')∧(dK (fun c v=>c.aB v) c1 (l.take k)).room (299 - 4 * k)∧ar w wr F Fk (fun _ _=>False)) (fun iv _=>N - (intOf iv).toNat)
    case atStart=>exact⟨0,F3,Nat.zero_le _,rfl,(aa H3).1,(aa H).2.2.2.2,(aa H).2.2.2.1,(aa H3).2⟩
    case round =>
      obtain⟨k,Fk,hk,rfl,hCk,⟨sk,hsk⟩,hrk,hsk2⟩:=hrel
      by_cases hlt:k<N
      · have hlt':(k:Int)<(n:Int):=by omega
        have hltm:(k:Int)<64:=by have:=aa HM;omega
        obtain⟨f,hfk⟩:∃ f,l[k]?=some f:=⟨l[k]'(by have:=aa HNL;omega),List.getElem?_eq_getElem (by have:=aa HNL;omega)⟩
        have hlk:=(aa H).2.2.1.aP hsk2 (fun _ _ _ _ _ h=>h)
        obtain⟨hfok,eg,eo,rfl,hegF,e0,e1,e2,e3⟩:=hlk.el k f hfk
        have hpr:wr.cell? ⟨g,i,none⟩=some (.slice (some ⟨eg,eo,none⟩) n xc):=(hsk2.oth g i hlp (aa H).2.1.nF (fun h=>h)).trans hp
        obtain⟨st,hst⟩:∃ st,st=dK (fun c v=>c.aB v) c1 (l.take k):=⟨_,rfl⟩
        rw[← hst] at hCk hsk hrk
        rw[hsk] at hCk hrk
        have h0r:wr.cell? ⟨cb,0,none⟩=some (.pointer (some ⟨b,0,none⟩)):=hCk.c0
        have h1r:wr.cell? ⟨cb,1,none⟩=some (.pointer none):=hCk.c1
        have hlg:=ab hpr
        have hlcr:=ab h0r
        have hler:=ab e0
        have hcapk:k≤xc:=by have:=(aa H).2.2.1.cap;have:=aa HNL;omega
        have hbx:=al wr (.cells #[.int .u32 (f.au:Nat),.int .u32 (f.ev:Nat),.int .u32 (f.fi:Nat),.bool f.re] 161)
        have hblk:=heap_alloc_new wr (.cells #[.int .u32 (f.au:Nat),.int .u32 (f.ev:Nat),.int .u32 (f.fi:Nat),.bool f.re] 161)
        have HCL:=ae (ke (.wr sk) f cb b wr.heap.size Fk E _ (hCk.aR hbx) ⟨ag (o:=0) hblk rfl,ag (o:=1) hblk rfl,ag (o:=2) hblk rfl,ag (o:=3) hblk rfl⟩ (fun i=>hCk.box _ _ i) hfok (CS.room_le hrk (by omega)))
        have HK:=ae (And.intro hrk (And.intro hsk2 (And.intro hfk (And.intro hsk (And.intro hst hbx)))))
        clear hCk hrk hsk2 hfk hsk hst hlk hfok hblk hbx hegF
        go_wp2_with fail
        refine(aa HCL).mono ?_
        rintro e w4 ⟨rfl,F4,hC4,_,hs4⟩
        obtain⟨hrk,hsk2,hfk,hsk,hst,hbx⟩:=aa HK
        have hs5:ar wr w4 Fk F4 (fun k _=>k=wr.heap.size):=(ar.bh hbx Fk _).trans hs4 (fun k j _ h=>h.1)
        have es:=sI (fun c v=>c.aB v) c1 l k f hfk
        rw[← hst,hsk] at es
        have HFIN:Hid (Cd w4 cb b F4 (dK (fun c v=>c.aB v) c1 (l.take (k+1))) E∧(∃ s',dK (fun c v=>c.aB v) c1 (l.take (k+1)) = .wr s')∧(dK (fun c v=>c.aB v) c1 (l.take (k+1))).room (299 - 4 * (k+1))∧ar w w4 F F4 (fun _ _=>False)):=by
          rw[es]
          exact⟨hC4,⟨_,rfl⟩,CS.iy (CS.room_le hrk (by omega)) _,hsk2.trans hs5 (fun k j hk h=>by have:=hsk2.size;omega)⟩
        have h1w:w4.cell? ⟨cb,1,none⟩=some (.pointer none):=hC4.c1
        have hlc4:=ab h1w
        clear hC4 hs4 hs5 hrk hsk2 hfk hsk hst hbx es HK HCL e0 e1 e2 e3 hpr h0r h1r
        go_wp2_with fail
        exact⟨⟨k+1,F4,by omega,by go_num,(aa HFIN).1,(aa HFIN).2.1,(aa HFIN).2.2.1,(aa HFIN).2.2.2⟩,by simp[intOf];omega⟩
      · have hkN:k=N:=by omega
        have HK:=ae (And.intro hCk hsk2)
        clear hCk hsk hrk hsk2
        first
          | (have hlt':¬ (k:Int)<(n:Int):=by have:=aa HM;omega
             go_wp2_with fail)
          | (have hlt':¬ (k:Int)<64:=by have:=aa HM;omega
             go_wp2_with fail)
        go_end0
        rw[hkN] at HK
        exact⟨rfl,Fk,(aa HK).1,(aa HK).2⟩
theorem lT (q:Q) (cb b g i:Nat) (F:Nat→Prop) (E:Nat→Addr) (w:World) (h:Cd w cb b F (.rd q) E) (hp:w.cell? ⟨g,i,none⟩=some (.slice none 0 0)) (hL:Loc w cb F g i) :
    Calls Tryz.prog 138 #[.pointer (some ⟨cb,0,none⟩),.string aK,.pointer (some ⟨g,i,none⟩),.int .i64 64,.func (.func 139) #[.pointer (some ⟨cb,0,none⟩)] #[],.slice none 0 0] w fun e w'=>e = .returned (.tuple #[])∧∃ F',Cd w' cb b F' (bg (fun c v=>c.aB v) hJ (min ((q.named aK).go 7 64).2.1 64) ((CS.rd q).cv aK 64 (dU 64 []) 0).1).1 E∧∃ x,w'.cell? ⟨g,i,none⟩=some x∧jN w' w.heap.size x (bg (fun c v=>c.aB v) hJ (min ((q.named aK).go 7 64).2.1 64) ((CS.rd q).cv aK 64 (dU 64 []) 0).1).2 F'∧ar w w' F F' (fun k j=>k=g∧j=i):=by
  have k2:=h.g7.k2
  have hl2:=ab k2
  have hsf:=cO
  have hent:∀ (x:Value) (W:World),(callFunc 139 (#[.pointer (some ⟨cb,0,none⟩),x])).run Tryz.prog W = .ok (.enter 139 (#[.pointer (some ⟨cb,0,none⟩),x])) W:=fun _ W=>enters Tryz.func139 rfl rfl _ W
  have hhead:=fR (.rd q) aK 0 64 [] cb b F E (.slice none 0 0) w h (by omega) (by decide) ⟨_,dC.nil _ w E,fun _ h=>h.elim⟩ (by decide) (by simp only[CS.room,CS.len];omega) 3
  obtain⟨c1,hc1⟩:∃ c1,c1=((CS.rd q).cv aK 64 (dU 64 []) 0).1:=⟨_,rfl⟩
  obtain⟨n,hn⟩:∃ n,n=((q.named aK).go 7 64).2.1:=⟨_,rfl⟩
  have hn1:((CS.rd q).cv aK 64 (dU 64 []) 0).2=(n:Int):=by rw[hn];rfl
  have hq1:∃ q',c1 = .rd q':=⟨_,hc1⟩
  have hnlt:n<4294967296:=by rw[hn];exact(q.named aK).go_lt 7 64
  rw[← hc1,hn1] at hhead
  rw[← hc1,← hn]
  clear hc1 hn1 hn
  have HG:=ae hhead
  clear hhead
  obtain⟨N,hN⟩:∃ N,N=min n 64:=⟨_,rfl⟩
  rw[← hN]
  have hNm:N≤64:=by omega
  have HM:=ae hN
  clear hN
  have HW:=ae (dx 0 64 2 E (w.alloc (.cells #[.int .i64 0] 3)) (by decide))
  have H:=ae (And.intro h (And.intro hL hq1))
  have hlp:=hL.lt
  clear h hL hq1
  go_enter Tryz.func138,Tryz.ntmps138
  go_wp2_with fail
  refine(aa HW).mono ?_
  rintro e w1 ⟨fv,rfl,K0,hF,hf1,hK0⟩
  obtain⟨ao,cp,w2,hr,hcall⟩:=(aa HG) w1 fv K0 hF hf1 hK0 none 0 rfl
  obtain⟨Fc,caps,rfl,_⟩:=hF.ex
  have HR:=ae hr
  have HC:=ae hcall
  clear hF hf1 hK0 hr hcall
  go_wp2_with (at_builtin;refine br rfl _ _ 278 278 rfl _ _ _ rfl rfl (aa HR) ?_)
  refine(aa HC).mono ?_
  rintro e w3 ⟨rfl,F3,hC3,hn3,hlt3,hnF3,hs3⟩
  have H3:=ae (And.intro hC3 hs3)
  clear hC3 hs3 hlt3 hnF3
  by_cases hnm:n≤64
  all_goals
    go_wp2_with fail
    go_loopw [32] (fun iv wr=>∃ (k:Nat) (Fk:Nat→Prop) (x:Value),k≤N∧iv = .int .i64 (k:Nat)∧Cd wr cb b Fk (bg (fun c v=>c.aB v) hJ k c1).1 E∧(∃ q',(bg (fun c v=>c.aB v) hJ k c1).1 = .rd q')∧wr.cell? ⟨g,i,none⟩=some x∧jN wr w.heap.size x (bg (fun c v=>c.aB v) hJ k c1).2 Fk∧ar w wr F Fk (fun k j=>k=g∧j=i)) (fun iv _=>N - (intOf iv).toNat)
    case atStart =>
      obtain⟨hC3,hs3⟩:=aa H3
      exact⟨0,F3,.slice none 0 0,Nat.zero_le _,rfl,hC3,(aa H).2.2,(hs3.oth g i hlp (aa H).2.1.nF (fun h=>h)).trans hp,jN.nil _ _ _,hs3.mono (fun _ _ _ h=>h.elim)⟩
    case round =>
      obtain⟨k,Fk,x,hk,rfl,hCk,⟨qk,hqk⟩,hxk,hOk,hsk2⟩:=hrel
      by_cases hlt:k<N
      · have hlt':(k:Int)<(n:Int):=by have:=aa HM;omega
        have hltm:(k:Int)<64:=by have:=aa HM;omega
        obtain⟨st,hst⟩:∃ st,st=(bg (fun c v=>c.aB v) hJ k c1).1:=⟨_,rfl⟩
        obtain⟨lk,hlk⟩:∃ lk,lk=(bg (fun c v=>c.aB v) hJ k c1).2:=⟨_,rfl⟩
        have hlkl:lk.length=k:=by rw[hlk];exact nN _ _ _ _
        rw[← hst] at hCk hqk
        rw[← hlk] at hOk
        rw[hqk] at hCk
        have h0r:wr.cell? ⟨cb,0,none⟩=some (.pointer none):=hCk.c0
        have h1r:wr.cell? ⟨cb,1,none⟩=some (.pointer (some ⟨b,0,none⟩)):=hCk.c1
        have hlg:=ab hxk
        have hlcr:=ab h0r
        have hLk:=(aa H).2.1.aP hsk2
        have hbx:=al wr (.cells #[.int .u32 0,.int .u32 0,.int .u32 0,.bool false] 161)
        have hblk:=heap_alloc_new wr (.cells #[.int .u32 0,.int .u32 0,.int .u32 0,.bool false] 161)
        have HCL:=ae (ke (.rd qk) hJ cb b wr.heap.size Fk E _ (hCk.aR hbx) ⟨ag (o:=0) hblk rfl,ag (o:=1) hblk rfl,ag (o:=2) hblk rfl,ag (o:=3) hblk rfl⟩ (fun i=>hCk.box _ _ i) xJ (by simp only[CS.room,CS.len];omega))
        have HK:=ae (And.intro hsk2 (And.intro hqk (And.intro hst (And.intro hlk (And.intro hbx (And.intro hOk hLk))))))
        have HLK:=ae hlkl
        clear hCk hsk2 hqk hst hlk hblk hbx hOk hLk hlkl
        go_wp2_with fail
        refine(aa HCL).mono ?_
        have hlkl:=aa HLK
        rintro e w4 ⟨rfl,F4,hC4,hp4v,hs4⟩
        have hok4:=CS.pN (.rd qk) hJ xJ
        obtain⟨hsk2,hqk,hst,hlk,hbx,hOk,hLk⟩:=aa HK
        obtain⟨f,hfv⟩:∃ f,f=((CS.rd qk).aB hJ).2:=⟨_,rfl⟩
        rw[← hfv] at hp4v hok4
        obtain⟨v0,v1,v2,v3⟩:=hp4v
        have hs5:ar wr w4 Fk F4 (fun k j=>k=wr.heap.size∧0≤j):=(ar.bh hbx Fk _).trans hs4 (fun k j _ h=>⟨h.1,by omega⟩)
        have hszw:=hsk2.size
        have hszr:=hs5.size
        have hO4:jN w4.drew w.heap.size x lk F4:=by
          have h1:=hOk.aP hs5 (fun k j hb hk h=>by omega)
          exact⟨h1.nF,av h1.row (fun _ _=>rfl),h1.ok⟩
        obtain⟨xo,xc,rfl⟩:=dS hOk.row
        obtain⟨ao',cap',w6,hr6,hO6,hf6⟩:=hO4.app f hok4 (by show w.heap.size≤w4.heap.size;omega) (fun k hk=>hC4.lt k hk) (by omega)
        have h0w:w4.cell? ⟨cb,1,none⟩=some (.pointer (some ⟨b,0,none⟩)):=hC4.c1
        have hp4:w4.cell? ⟨g,i,none⟩=some (.slice xo lk.length xc):=(hs5.oth g i hlg hLk.nF (fun h=>by omega)).trans hxk
        have fz4:w4.frozen? ⟨g,i,none⟩=false:=(hs5.fz g i hlg hLk.nF).trans hLk.fz
        have hlg4:=ab hp4
        have hxlo:∀ k,(Value.slice xo lk.length xc).ownBlock=some k→w.heap.size≤k:=fun k hk=>(hOk.row.lt k hk).1
        have hp6:w6.cell? ⟨g,i,none⟩=some (.slice xo lk.length xc):=(hf6.cell (p:=⟨g,i,none⟩) hlg4 (fun h=>by have:=hxlo g h;omega)).trans hp4
        have fz6:w6.frozen? ⟨g,i,none⟩=false:=(hf6.frozen (p:=⟨g,i,none⟩) hlg4 (fun h=>by have:=hxlo g h;omega)).trans fz4
        have hf46:Fr (fun k=>(Value.slice xo lk.length xc).ownBlock=some k) w4 w6:=⟨hf6.os,hf6.tape,hf6.output,hf6.size,hf6.block⟩
        have hgF4:¬ F4 g:=hs5.nF hlg hLk.nF
        have hsW:ar w (w6.setCell ⟨g,i,none⟩ (.slice ao' (lk.length+1) cap')) F F4 (fun k j=>k=g∧j=i):=((hsk2.trans hs5 (fun k j hk h=>by omega)).grow hf46 hxlo).trans (ar.set g i _) (fun _ _ _ h=>h)
        have hcbw:=ab (aa H).1.c0
        have hglo:=(aa H).2.1.lo
        have hgnc:=(aa H).2.1.nc
        have hC7:Cd (w6.setCell ⟨g,i,none⟩ (.slice ao' (lk.length+1) cap')) cb b F4 ((CS.rd qk).aB hJ).1 E:=
          (hC4.fr hf46 (fun kk hk hS=>hO4.nF kk hS hk) (fun hS=>by have:=hxlo cb hS;simp only at hcbw;omega) (fun kk hS=>by have:=hxlo kk hS;omega)).fr ((Fr.refl (fun kk=>kk=g) _).setCell (.inl rfl) _) (fun kk hk e=>hgF4 (e ▸ hk)) (fun e=>hgnc e.symm) (fun kk e=>by rw[e];exact hglo)
        have hO7:jN (w6.setCell ⟨g,i,none⟩ (.slice ao' (lk.length+1) cap')) w.heap.size (.slice ao' (lk.length+1) cap') (lk++[f]) F4:=hO6.aP (ar.set g i _) (fun kk j hb _ h=>by omega)
        have hc7:(w6.setCell ⟨g,i,none⟩ (.slice ao' (lk.length+1) cap')).cell? ⟨g,i,none⟩=some (.slice ao' (lk.length+1) cap'):=World.cell?_setCell_same _ _ _ hp6
        have e1:(bg (fun c v=>c.aB v) hJ (k+1) c1).1=((CS.rd qk).aB hJ).1:=by
          show((bg (fun c v=>c.aB v) hJ k c1).1.aB hJ).1=_
          rw[← hst,hqk]
        have e3:(bg (fun c v=>c.aB v) hJ (k+1) c1).2=lk++[f]:=by
          show(bg (fun c v=>c.aB v) hJ k c1).2++[((bg (fun c v=>c.aB v) hJ k c1).1.aB hJ).2]=_
          rw[← hst,← hlk,hqk,hfv]
        have HFIN:Hid (∀ V,V=w6.setCell ⟨g,i,none⟩ (.slice ao' (lk.length+1) cap')→Cd V cb b F4 (bg (fun c v=>c.aB v) hJ (k+1) c1).1 E∧(∃ q',(bg (fun c v=>c.aB v) hJ (k+1) c1).1 = .rd q')∧V.cell? ⟨g,i,none⟩=some (.slice ao' (lk.length+1) cap')∧jN V w.heap.size (.slice ao' (lk.length+1) cap') (bg (fun c v=>c.aB v) hJ (k+1) c1).2 F4∧ar w V F F4 (fun k j=>k=g∧j=i)):=by
          rintro V rfl
          rw[e1,e3]
          exact⟨hC7,⟨_,rfl⟩,hc7,hO7,hsW⟩
        have HR6:=ae hr6
        have hlv4:=ab v0
        clear hsW hC7 hO7 hc7 e1 e3 hgF4 hxlo hr6 hO6 hf6 hf46 hC4 hs5 hs4 hO4 hOk hst hlk hbx hsk2 hqk hLk hok4 hfv HK HCL hszw hszr hcbw hglo hgnc hxk h0r h1r hlkl
        go_wp2_with fail
        go_region_law (refine gB rfl (.tmp 56) (.tmp 58) 31 31 rfl _ _ _ (by simp[Act.eval]) (by simp[Act.eval]) (aa HR6) ?_)
        all_goals
          go_wp2_with fail
          obtain⟨z1,z2,z4,z5,z6⟩:=(aa HFIN) _ rfl
          exact⟨⟨k+1,F4,_,by omega,by go_num,z1,z2,z4,z5,z6⟩,by simp[intOf];omega⟩
      · have hkN:k=N:=by omega
        have HK:=ae (And.intro hCk (And.intro hsk2 (And.intro hOk hxk)))
        clear hCk hqk hsk2 hOk
        first
          | (have hlt':¬ (k:Int)<(n:Int):=by have:=aa HM;omega
             go_wp2_with fail)
          | (have hlt':¬ (k:Int)<64:=by have:=aa HM;omega
             go_wp2_with fail)
        go_end0
        rw[hkN] at HK
        exact⟨rfl,Fk,(aa HK).1,x,(aa HK).2.2.2,(aa HK).2.2.1,(aa HK).2.1⟩
def CS.jo (c:CS) (l:List dB):CS × List dB:=match c with
 | .wr s=>(dK (fun c v=>c.aB v) ((CS.wr s).cv aK 64 (dU 64 []) l.length).1 (l.take (min l.length 64)),l)
 | .rd q=>bg (fun c v=>c.aB v) hJ (min ((q.named aK).go 7 64).2.1 64) ((CS.rd q).cv aK 64 (dU 64 []) 0).1
structure tb (w:World) (c:CS) (x:Value) (l:List dB) (F:Nat→Prop) (g:Nat):Prop where
 wr:∀ s,c = .wr s→∃ xo xc,x = .slice xo l.length xc∧Cb w xo xc l F∧∀ g' o,xo=some ⟨g',o,none⟩→l≠[]→g'≠g
 rd:∀ q,c = .rd q→x = .slice none 0 0∧l=[]
 n:l.length<9223372036854775808
theorem tb.aP {w w':World} {c c':CS} {x:Value} {l:List dB} {F F':Nat→Prop} {P:Nat→Nat→Prop} {g:Nat} (h:tb w c x l F g) (hs:ar w w' F F' P) (hP:∀ k i,k<w.heap.size→P k i→k=g) (hm:c.sm c'):tb w' c' x l F' g:=by
 refine⟨fun s hs'=>?_,fun q hq=>?_,h.n⟩
 ·obtain⟨s',e⟩:=hm.1 s hs'
  obtain⟨xo,xc,e1,e2,e3⟩:=h.wr s' e
  refine⟨xo,xc,e1,⟨e2.cap,fun j f hf=>?_⟩,e3⟩
  obtain⟨h0,g',o,h1,h2,h3,h4,h5,h6⟩:=e2.el j f hf
  have hlt:g'<w.heap.size:=ab h3
  have hne:g'≠g:=e3 g' o h1 (by rintro rfl;simp at hf)
  have hp:∀ i,¬ P g' i:=fun i hp=>hne (hP g' i hlt hp)
  exact⟨h0,g',o,h1,hs.nF hlt h2,(hs.oth g' _ hlt h2 (hp _)).trans h3,(hs.oth g' _ hlt h2 (hp _)).trans h4,(hs.oth g' _ hlt h2 (hp _)).trans h5,(hs.oth g' _ hlt h2 (hp _)).trans h6⟩
 ·obtain⟨q',e⟩:=hm.2 q hq
  exact h.rd q' e
structure yO (w w':World) (c:CS) (x x':Value) (l':List dB) (F':Nat→Prop):Prop where
 wr:∀ s,c = .wr s→x'=x
 rd:∀ q,c = .rd q→jN w' w.heap.size x' l' F'
theorem yO.of {w0 w w':World} {c c':CS} {x x':Value} {l:List dB} {F':Nat→Prop} (h:yO w w' c' x x' l F') (hm:c.sm c') (hs:w0.heap.size≤w.heap.size):yO w0 w' c x x' l F':=by
 refine⟨fun s e=>?_,fun q e=>?_⟩
 ·cases hc:c' with
  | wr s'=>exact h.wr s' hc
  | rd q'=>obtain⟨_,e'⟩:=hm.2 q' hc;rw[e] at e';cases e'
 ·cases hc:c' with
  | wr s'=>obtain⟨_,e'⟩:=hm.1 s' hc;rw[e] at e';cases e'
  | rd q' =>
   have h9:=h.rd q' hc
   exact⟨h9.nF,aH h9.row hs,h9.ok⟩
theorem wO (c:CS) (x:Value) (l:List dB) (cb b g i:Nat) (F:Nat→Prop) (E:Nat→Addr) (w:World) (h:Cd w cb b F c E) (hp:w.cell? ⟨g,i,none⟩=some x) (hX:tb w c x l F g) (hL:Loc w cb F g i) (hroom:c.room 300) :
  Calls Tryz.prog 138 #[.pointer (some ⟨cb,0,none⟩),.string aK,.pointer (some ⟨g,i,none⟩),.int .i64 64,.func (.func 139) #[.pointer (some ⟨cb,0,none⟩)] #[],.slice none 0 0] w fun e w'=>e = .returned (.tuple #[])∧∃ F' x',Cd w' cb b F' (c.jo l).1 E∧w'.cell? ⟨g,i,none⟩=some x'∧yO w w' c x x' (c.jo l).2 F'∧ar w w' F F' (fun k j=>k=g∧j=i):=by
 cases c with
 | wr s =>
  obtain⟨xo,xc,rfl,hV,_⟩:=hX.wr s rfl
  refine(lN s cb b g i F E xo xc l w h hX.n hp hL hV hroom).mono ?_
  rintro e w' ⟨rfl,F',hC,hs⟩
  exact⟨rfl,F',_,hC,(hs.oth g i hL.lt hL.nF (fun h=>h)).trans hp,⟨fun _ _=>rfl,fun q e=>by cases e⟩,hs.mono (fun _ _ _ h=>h.elim)⟩
 | rd q =>
  obtain⟨rfl,rfl⟩:=hX.rd q rfl
  refine(lT q cb b g i F E w h hp hL).mono ?_
  rintro e w' ⟨rfl,F',hC,x',hx',hO,hs⟩
  exact⟨rfl,F',x',hC,hx',⟨fun s e=>(by cases e),fun _ _=>hO⟩,hs⟩
structure gr where
 cl:Nat
 nu:Nat
 co:Nat
 re:Nat
 ve:Nat
 fs:List cj
 hi:List dB
structure gr.ok (v:gr):Prop where
 cl:v.cl<4294967296
 nu:v.nu<4294967296
 co:v.co<256
 re:v.re<4294967296
 ve:v.ve<4294967296
def CS.a1 (c:CS) (v:gr):CS × Nat × Nat:=c.ky (v.cl,v.nu)
def CS.a2 (c:CS) (v:gr):CS × Nat:=(c.a1 v).1.qg v.co
def CS.a3 (c:CS) (v:gr):CS × Nat:=(c.a2 v).1.bL dc [] v.re
def CS.a4 (c:CS) (v:gr):CS × Nat:=(c.a3 v).1.bL cg [] v.ve
def CS.a5 (c:CS) (v:gr):CS × List cj:=(c.a4 v).1.cF 2 [] v.fs
def CS.a6 (c:CS) (v:gr):CS × List dB:=(c.a5 v).1.jo v.hi
def CS.bp (c:CS) (v:gr):CS × gr:=((c.a6 v).1,⟨(c.a1 v).2.1,(c.a1 v).2.2,(c.a2 v).2,(c.a3 v).2,(c.a4 v).2,(c.a5 v).2,(c.a6 v).2⟩)
structure yN (w:World) (g o:Nat) (v:gr) (x y:Value):Prop where
 c0:w.cell? ⟨g,o,none⟩=some (.int .u32 (v.cl:Nat))
 c1:w.cell? ⟨g,o+1,none⟩=some (.int .u32 (v.nu:Nat))
 c2:w.cell? ⟨g,o+2,none⟩=some (.int .u8 (v.co:Nat))
 c3:w.cell? ⟨g,o+3,none⟩=some (.int .u32 (v.re:Nat))
 c4:w.cell? ⟨g,o+4,none⟩=some (.int .u32 (v.ve:Nat))
 c5:w.cell? ⟨g,o+5,none⟩=some x
 c6:w.cell? ⟨g,o+6,none⟩=some y
theorem lg (c:CS) (v:gr) (x y:Value) (cb b g o:Nat) (F:Nat→Prop) (E:Nat→Addr) (w:World) (h:Cd w cb b F c E) (hp:yN w g o v x y) (hX:jF w c x v.fs F g) (hY:tb w c y v.hi F g) (hL:∀ i,Loc w cb F g i) (hv:v.ok) (hroom:c.room 500) :
  Calls Tryz.prog 109 #[.pointer (some ⟨cb,0,none⟩),.pointer (some ⟨g,o,none⟩)] w fun e w'=>e = .returned (.tuple #[])∧∃ F' x' y',Cd w' cb b F' (c.bp v).1 E∧yN w' g o (c.bp v).2 x' y'∧kg w w' c x x' (c.bp v).2.fs F'∧yO w w' c y y' (c.bp v).2.hi F'∧ar w w' F F' (aC g o 7):=by
 have hmf:=mf
 have R1:(c.a1 v).1.room 498:=CS.ej hroom _
 have R2:(c.a2 v).1.room 497:=CS.ch R1 _ _ _
 have R3:(c.a3 v).1.room 496:=CS.aF R2 _ _ _
 have R4:(c.a4 v).1.room 495:=CS.aF R3 _ _ _
 have R5:(c.a5 v).1.room 366:=CS.dN R4 _ _ _
 have M4:c.sm (c.a4 v).1:=CS.ax (CS.ax (CS.ax (c.gO _) (CS.dL _ _ _ _)) (CS.bo _ _ _ _)) (CS.bo _ _ _ _)
 have M5:c.sm (c.a5 v).1:=CS.ax M4 (CS.eQ _ _ _ _)
 have hgw:=(hL 0).lt
 have hgF:=(hL 0).nF
 have HR:=ae (And.intro R1 (And.intro R2 (And.intro R3 (And.intro R4 (And.intro R5 (And.intro M4 M5))))))
 have HV:=ae hv
 have HI:=ae (oB c (v.cl,v.nu) cb b g o F E w h hp.c0 hp.c1 hL hv.cl hv.nu (CS.room_le hroom (by decide)))
 have H:=ae (And.intro hp (And.intro hX (And.intro hY hL)))
 clear h hp hX hY hL hv hroom R1 R2 R3 R4 R5 M4 M5
 go_enter Tryz.func109,Tryz.ntmps109
 go_wp2_with fail
 refine(aa HI).mono ?_
 rintro e w1 ⟨rfl,F1,hC1,i0,i1,hs1⟩
 obtain⟨hp,hX,hY,hL⟩:=aa H
 have hL1:=fun i=>(hL i).aP hs1
 have oth1:∀ i,2≤i→∀ z,w.cell? ⟨g,o+i,none⟩=some z→w1.cell? ⟨g,o+i,none⟩=some z:=fun i hi z hz=>(hs1.oth g (o+i) hgw hgF (fun h=>by have:=h.2;omega)).trans hz
 have HD:=ae (qd (c.a1 v).1 v.co cb b g (o+2) F1 E w1 hC1 (oth1 2 (by decide) _ hp.c2) (hL1 _) (aa HV).co (CS.room_le (aa HR).1 (by decide)))
 have H1:=ae (And.intro i0 (And.intro i1 (And.intro (oth1 3 (by decide) _ hp.c3) (And.intro (oth1 4 (by decide) _ hp.c4) (And.intro (oth1 5 (by decide) _ hp.c5) (And.intro (oth1 6 (by decide) _ hp.c6) (And.intro (hs1.mono (P':=aC g o 7) (fun k j _ h=>⟨h.1,h.2.1,by have:=h.2;omega⟩)) hL1)))))))
 clear hp hX hY hL hL1 oth1 hC1 i0 i1 hs1 HI
 go_wp2_with fail
 refine(aa HD).mono ?_
 rintro e w2 ⟨rfl,F2,hC2,hc2,hs2⟩
 obtain⟨i0,i1,i3,i4,i5,i6,hs01,hL1⟩:=aa H1
 have oth2:∀ i,i≠2→∀ z,w1.cell? ⟨g,o+i,none⟩=some z→w2.cell? ⟨g,o+i,none⟩=some z:=fun i hi z hz=>(hs2.oth g (o+i) (hL1 0).lt (hL1 0).nF (fun h=>by omega)).trans hz
 have hL2:=fun i=>(hL1 i).aP hs2
 have HN:=ae (bJ (c.a2 v).1 dc [] v.re cb b g (o+3) F2 E (.slice none 0 0) w2 hC2 (oth2 3 (by decide) _ i3) (hL2 _) (aa HV).re (ij.nil _ w2 F2 g E) (CS.room_le (aa HR).2.1 (by decide)))
 have H2:=ae (And.intro (oth2 0 (by decide) _ i0) (And.intro (oth2 1 (by decide) _ i1) (And.intro hc2 (And.intro (oth2 4 (by decide) _ i4) (And.intro (oth2 5 (by decide) _ i5) (And.intro (oth2 6 (by decide) _ i6) (And.intro (hs01.trans hs2 (fun k j _ h=>⟨h.1,by omega,by omega⟩)) hL2)))))))
 clear i0 i1 i3 i4 i5 i6 hs01 hL1 oth2 hL2 hC2 hc2 hs2 H1 HD
 go_wp2_with fail
 refine(aa HN).mono ?_
 rintro e w3 ⟨rfl,F3,hC3,hc3,hs3⟩
 obtain⟨i0,i1,i2,i4,i5,i6,hs02,hL2⟩:=aa H2
 have oth3:∀ i,i≠3→∀ z,w2.cell? ⟨g,o+i,none⟩=some z→w3.cell? ⟨g,o+i,none⟩=some z:=fun i hi z hz=>(hs3.oth g (o+i) (hL2 0).lt (hL2 0).nF (fun h=>by omega)).trans hz
 have hL3:=fun i=>(hL2 i).aP hs3
 have HN4:=ae (bJ (c.a3 v).1 cg [] v.ve cb b g (o+4) F3 E (.slice none 0 0) w3 hC3 (oth3 4 (by decide) _ i4) (hL3 _) (aa HV).ve (ij.nil _ w3 F3 g E) (CS.room_le (aa HR).2.2.1 (by decide)))
 have H3:=ae (And.intro (oth3 0 (by decide) _ i0) (And.intro (oth3 1 (by decide) _ i1) (And.intro (oth3 2 (by decide) _ i2) (And.intro hc3 (And.intro (oth3 5 (by decide) _ i5) (And.intro (oth3 6 (by decide) _ i6) (And.intro (hs02.trans hs3 (fun k j _ h=>⟨h.1,by omega,by omega⟩)) hL3)))))))
 clear i0 i1 i2 i4 i5 i6 hs02 hL2 oth3 hL3 hC3 hc3 hs3 H2 HN
 go_wp2_with fail
 refine(aa HN4).mono ?_
 rintro e w4 ⟨rfl,F4,hC4,hc4,hs4⟩
 obtain⟨i0,i1,i2,i3,i5,i6,hs03,hL3⟩:=aa H3
 have oth4:∀ i,i≠4→∀ z,w3.cell? ⟨g,o+i,none⟩=some z→w4.cell? ⟨g,o+i,none⟩=some z:=fun i hi z hz=>(hs4.oth g (o+i) (hL3 0).lt (hL3 0).nF (fun h=>by omega)).trans hz
 have hL4:=fun i=>(hL3 i).aP hs4
 have hs04:=hs03.trans hs4 (fun k j _ h=>⟨h.1,by omega,by omega⟩)
 have hX4:jF w4 (c.a4 v).1 x v.fs F4 g:=(aa H).2.1.aP hs04 (fun k i _ h=>h.1) (aa HR).2.2.2.2.2.1.1 (aa HR).2.2.2.2.2.1.2
 have HFD:=ae (lQ (c.a4 v).1 2 [] none 0 x v.fs cb b g (o+5) F4 E w4 hC4 (oth4 5 (by decide) _ i5) hX4 (hL4 _) ⟨_,dC.nil _ w4 E,fun _ h=>h.elim⟩ (by decide) (CS.room_le (aa HR).2.2.2.1 (by decide)))
 have H4:=ae (And.intro (oth4 0 (by decide) _ i0) (And.intro (oth4 1 (by decide) _ i1) (And.intro (oth4 2 (by decide) _ i2) (And.intro (oth4 3 (by decide) _ i3) (And.intro hc4 (And.intro (oth4 6 (by decide) _ i6) (And.intro hs04 hL4)))))))
 clear i0 i1 i2 i3 i5 i6 hs03 hL3 oth4 hL4 hs04 hX4 hC4 hc4 hs4 H3 HN4
 go_wp2_with fail
 refine(aa HFD).mono ?_
 rintro e w5 ⟨rfl,F5,x5,hC5,hc5,hO5,hs5⟩
 obtain⟨i0,i1,i2,i3,i4,i6,hs04,hL4⟩:=aa H4
 have oth5:∀ i,i≠5→∀ z,w4.cell? ⟨g,o+i,none⟩=some z→w5.cell? ⟨g,o+i,none⟩=some z:=fun i hi z hz=>(hs5.oth g (o+i) (hL4 0).lt (hL4 0).nF (fun h=>by omega)).trans hz
 have hL5:=fun i=>(hL4 i).aP hs5
 have hs05:=hs04.trans hs5 (fun k j _ h=>⟨h.1,by omega,by omega⟩)
 have hY5:tb w5 (c.a5 v).1 y v.hi F5 g:=(aa H).2.2.1.aP hs05 (fun k i _ h=>h.1) (aa HR).2.2.2.2.2.2
 have hO5':=hO5.of (aa HR).2.2.2.2.2.1 hs04.size
 have HHI:=ae (wO (c.a5 v).1 y v.hi cb b g (o+6) F5 E w5 hC5 (oth5 6 (by decide) _ i6) hY5 (hL5 _) (CS.room_le (aa HR).2.2.2.2.1 (by decide)))
 have H5:=ae (And.intro (oth5 0 (by decide) _ i0) (And.intro (oth5 1 (by decide) _ i1) (And.intro (oth5 2 (by decide) _ i2) (And.intro (oth5 3 (by decide) _ i3) (And.intro (oth5 4 (by decide) _ i4) (And.intro hc5 (And.intro hs05 (And.intro hL5 hO5'))))))))
 clear i0 i1 i2 i3 i4 i6 hs04 hL4 oth5 hL5 hs05 hY5 hO5' hC5 hc5 hO5 hs5 H4 HFD
 go_wp2_with fail
 refine(aa HHI).mono ?_
 rintro e w6 ⟨rfl,F6,y6,hC6,hc6,hO6,hs6⟩
 obtain⟨i0,i1,i2,i3,i4,i5,hs05,hL5,hO5⟩:=aa H5
 have oth6:∀ i,i≠6→∀ z,w5.cell? ⟨g,o+i,none⟩=some z→w6.cell? ⟨g,o+i,none⟩=some z:=fun i hi z hz=>(hs6.oth g (o+i) (hL5 0).lt (hL5 0).nF (fun h=>by omega)).trans hz
 have HE:Hid (Cd w6 cb b F6 (c.bp v).1 E∧yN w6 g o (c.bp v).2 x5 y6∧kg w w6 c x x5 (c.bp v).2.fs F6∧yO w w6 c y y6 (c.bp v).2.hi F6∧ar w w6 F F6 (aC g o 7)):=
  ⟨hC6,⟨oth6 0 (by decide) _ i0,oth6 1 (by decide) _ i1,oth6 2 (by decide) _ i2,oth6 3 (by decide) _ i3,oth6 4 (by decide) _ i4,oth6 5 (by decide) _ i5,hc6⟩,hO5.aP hs6 hgw (fun k j _ h=>h.1),hO6.of (aa HR).2.2.2.2.2.2 hs05.size,hs05.trans hs6 (fun k j _ h=>⟨h.1,by omega,by omega⟩)⟩
 clear i0 i1 i2 i3 i4 i5 hs05 hL5 hO5 oth6 hC6 hc6 hO6 hs6 H5 HHI
 go_wp2_with fail
 go_end0
 exact⟨rfl,F6,x5,y6,(aa HE).1,(aa HE).2.1,(aa HE).2.2.1,(aa HE).2.2.2.1,(aa HE).2.2.2.2⟩
end Go.Proofs.YtdcopmkgmbiikaaGreatDoor
