import Derived.Test.YtdcopmkgmbiikaaGreatDoorJRef
set_option maxRecDepth 100000
namespace Go.Proofs.YtdcopmkgmbiikaaGreatDoor
open Go.RowKit
theorem bR {w:World} {base:Nat} {v:Value} {l:List Nat} (h:w.ownsRow base 5 1 v l.length (cellsOf l)):Src w v l:=by
 rcases h.2 with ⟨rfl,e⟩|⟨g,cap,cur,rfl,_⟩
 ·exact .inl ⟨rfl,List.eq_nil_of_length_eq_zero e⟩
 ·refine .inr (.inl ⟨g,0,cap,rfl,fun j v hv=>?_⟩)
  have:=h.cells (g:=g) rfl j v hv
  have e:(⟨g,0,none⟩:Addr).add j=⟨g,0+j,none⟩:=by unfold Addr.add;split <;> simp_all
  rw[e] at this;exact this
theorem al (w:World) (a:Obj):Fr (fun _=>False) w (w.alloc a):=(Fr.refl _ _).alloc _
theorem ua (w:World) (v:Value) (t:TypeId):(w.alloc (.cells #[v] t)).cell? ⟨w.heap.size,0,none⟩=some v:=by simp
theorem ed {w:World} {base base' n:Nat} {v:Value} {xs:List Value} (h:w.ownsRow base 5 1 v n xs) (hb:base'≤base):w.ownsRow base' 5 1 v n xs:=by
 refine⟨h.1,?_⟩
 rcases h.2 with h|⟨g,c,cur,e1,e2,e3⟩
 ·exact .inl h
 ·exact .inr ⟨g,c,cur,e1,Nat.le_trans hb e2,e3⟩
theorem oE {wb:World} (b Fc:Nat) (caps:Array Value) (p0 p1 p2:Addr) (nm:ByteArray) (sv old:Value) (all:List Nat) (place part p':Nat) (n:Nat) (l:List Nat) (h:Rc wb b nm sv all place part)
  (hp0:wb.cell? p0=some (.pointer (some ⟨b,0,none⟩))) (hp1:wb.cell? p1=some (.func (.func Fc) #[] caps)) (hp2:wb.cell? p2=some old) (f2:wb.frozen? p2=false) (n0:p0.block≠b) (n1:p1.block≠b) (n2:p2.block≠b)
  (he:∀ W,(callFunc Fc caps).run Tryz.prog W = .ok (.enter Fc caps) W)
  (hread:∀ wk,Fr (fun k=>k=b) wb wk→Rc wk b nm sv all place place→Calls Tryz.prog Fc caps wk fun e w'=>∃ ao cap,e = .returned (.slice ao n cap)∧w'.ownsRow wk.heap.size 5 1 (.slice ao n cap) n (cellsOf l)∧Rc w' b nm sv all p' place∧Fr (fun k=>k=b) wk w') :
  Calls Tryz.prog 182 #[.pointer (some ⟨b,0,none⟩),.func (.func 231) #[] #[.pointer (some p0),.pointer (some p1),.pointer (some p2)]] wb fun e w'=>e = .returned (.tuple #[])∧∃ w1 ao cap,w1.ownsRow wb.heap.size 5 1 (.slice ao n cap) n (cellsOf l)∧Rc w1 b nm sv all p' place∧Fr (fun k=>k=b) wb w1∧w'=w1.setCell p2 (.slice ao n cap):=by
 have hk:Fr (fun _=>False) wb (wb.alloc (.cells #[.pointer (some ⟨b,0,none⟩)] 271)):=(Fr.refl _ _).alloc _
 have hkb:Fr (fun k=>k=b) wb (wb.alloc (.cells #[.pointer (some ⟨b,0,none⟩)] 271)):=(Fr.refl _ _).alloc _
 refine de b 231 _ (fun w'=>∃ w1 ao cap,w1.ownsRow wb.heap.size 5 1 (.slice ao n cap) n (cellsOf l)∧Rc w1 b nm sv all p' place∧Fr (fun k=>k=b) wb w1∧w'=w1.setCell p2 (.slice ao n cap)) wb h.c1 (enters Tryz.func231 (by kernel_rfl) (by kernel_rfl) _) ?_
 refine(pe b Fc caps p0 p1 p2 nm sv old all place part p' n l _ (h.frame hk (fun h=>h) (fun _ _ _ _ _ h=>h)) ((hk.cell (ab hp0) (fun h=>h)).trans hp0) ((hk.cell (ab hp1) (fun h=>h)).trans hp1) ((hk.cell (ab hp2) (fun h=>h)).trans hp2) ((hk.frozen (ab hp2) (fun h=>h)).trans f2) n0 n1 n2 he (fun wk hf hr=>hread wk (hkb.trans hf (fun _ _ h=>h)) hr)).mono ?_
 rintro e w' ⟨rfl,w1,ao,cap,hown,hr,hf,rfl⟩
 exact⟨rfl,w1,ao,cap,ed hown (by simp),hr,hkb.trans hf (fun _ _ h=>h),rfl⟩
theorem rl (b Fc:Nat) (caps:Array Value) (F:Nat→Prop) (s:dy) (p':Nat) (n:Nat) (l:List Nat) (w:World) (h:R w b F s) (hn:s.f=none) (he:∀ W,(callFunc Fc caps).run Tryz.prog W = .ok (.enter Fc caps) W)
  (hread:∀ wk sv,Fr (fun k=>k=b) w wk→Rc wk b s.nm sv s.all s.place s.place→Calls Tryz.prog Fc caps wk fun e w'=>∃ ao cap,e = .returned (.slice ao n cap)∧w'.ownsRow wk.heap.size 5 1 (.slice ao n cap) n (cellsOf l)∧Rc w' b s.nm sv s.all p' s.place∧Fr (fun k=>k=b) wk w') :
  Calls Tryz.prog 222 #[.pointer (some ⟨b,0,none⟩),.func (.func Fc) #[] caps] w fun e w'=>∃ ao cap,e = .returned (.slice ao n cap)∧w'.ownsRow (w.heap.size+3) 5 1 (.slice ao n cap) n (cellsOf l)∧R w' b F { s with place:=p',part:=s.place } ∧ Fr (fun k=>k=b) w w':=by
 obtain⟨sv,hr,hF⟩:=h.rc hn
 have hlt:=h.lt b h.fb
 have hmf:=mf
 have H:=ae (And.intro h (And.intro hn (And.intro hr hF)))
 have HR:=ae hread
 clear h hn hr hF hread
 go_enter Tryz.func222,Tryz.ntmps222
 go_wp2_with fail
 refine(oE b Fc caps ⟨w.heap.size,0,none⟩ ⟨w.heap.size+1,0,none⟩ ⟨w.heap.size+1+1,0,none⟩ s.nm sv _ s.all s.place s.part p' n l ((aa H).2.2.1.frame (aI w _ _ _) (fun h=>h) (fun _ _ _ _ _ h=>h)) (lf _ _ _ _ _) (mm _ _ _ _ _) (jW _ _ _ _ _) (pH _ _ _ _ _) (by show w.heap.size≠b;omega) (by show w.heap.size+1≠b;omega) (by show w.heap.size+1+1≠b;omega) he (fun wk hf hr=>aa HR wk sv ((dJ w b _ _ _).trans hf (fun _ _ h=>h)) hr)).mono ?_
 rintro e w' ⟨rfl,w1,ao,cap,hown,hr,hf,rfl⟩
 have HO:Hid (w1.ownsRow (w.heap.size+1+1+1) 5 1 (.slice ao n cap) n (cellsOf l)):=ae (by simpa using hown)
 clear hown
 have hf1:=(dJ w b _ _ _).trans hf (fun _ _ h=>h)
 have hc2:=(hf.cell (p:=⟨w.heap.size+1+1,0,none⟩) (by simp) (by show ¬ w.heap.size+1+1=b;omega)).trans (jW _ _ _ _ _)
 have hz2:=(hf.frozen (p:=⟨w.heap.size+1+1,0,none⟩) (by simp) (by show ¬ w.heap.size+1+1=b;omega)).trans (pH _ _ _ _ _)
 have HH:=ae (And.intro hr hf1)
 clear hr hf1 hf
 go_wp2_with fail
 obtain⟨hR,hF⟩:=jY (V:=.slice ao n cap) (aa H).1 (aa H).2.1 (aa H).2.2.2 (aa HH).1 (aa HH).2
 exact bodyPost_ret (v:=.slice ao n cap) (by simp[results,Tryz.results222,go_sem,hc2]) rfl ⟨ao,cap,rfl,ownsRow_setCell_below (ownsRow_setCell_below (aa HO) (by simp) _) (by simp) _,hR,hF⟩
theorem A8 (b:Nat) (F:Nat→Prop) (s:dy) (E:Nat→Addr) (w:World) (hg:Gl w E) (h:R w b F s) (hn:s.f=none) (hl:1+s.place≤s.all.length) :
  Calls Tryz.prog 191 #[.pointer (some ⟨b,0,none⟩)] w fun e w'=>e = .returned (.int .u8 (val ((s.all.drop s.place).take 1)))∧R w' b F { s with place:=s.place+1,part:=s.place } ∧ Fr (fun k=>k=b) w w':=by
 have hlt:=h.lt b h.fb
 have hlo:=h.lo b h.fb
 have hmf:=mf
 have H:=ae (And.intro h (And.intro hn hg))
 clear h hn hg
 go_enter Tryz.func191,Tryz.ntmps191
 go_wp2_with fail
 refine(qi b 212 _ F s (s.place+1) (val ((s.all.drop s.place).take 1)) _ ((aa H).1.frame (al w _) (fun _ _ h=>h)) (aa H).2.1 (enters Tryz.func212 (by kernel_rfl) (by kernel_rfl) _) (fun wk sv hf hr=>AA b s.place s.place ⟨w.heap.size,0,none⟩ s.nm sv s.all E wk (((aa H).2.2.aR (al w _)).gn hf hlo) hr ((hf.cell (by simp) (by show ¬ w.heap.size=b;omega)).trans (ua _ _ _)) hl)).mono ?_
 rintro e w' ⟨rfl,hR,hf⟩
 have HR:=ae (And.intro hR hf)
 clear hR hf
 go_wp2_with fail
 go_ret
 exact⟨rfl,(aa HR).1,((al w _).mono (fun _ _ h=>h.elim)).trans (aa HR).2 (fun _ _ h=>h)⟩
theorem zt (b:Nat) (F:Nat→Prop) (s:dy) (E:Nat→Addr) (w:World) (hg:Gl w E) (h:R w b F s) (hn:s.f=none) (hl:4+s.place≤s.all.length) :
  Calls Tryz.prog 192 #[.pointer (some ⟨b,0,none⟩)] w fun e w'=>e = .returned (.int .u32 (val ((s.all.drop s.place).take 4)))∧R w' b F { s with place:=s.place+4,part:=s.place } ∧ Fr (fun k=>k=b) w w':=by
 have hlt:=h.lt b h.fb
 have hlo:=h.lo b h.fb
 have hmf:=mf
 have H:=ae (And.intro h (And.intro hn hg))
 clear h hn hg
 go_enter Tryz.func192,Tryz.ntmps192
 go_wp2_with fail
 refine(oy b 215 _ F s (s.place+4) (val ((s.all.drop s.place).take 4)) _ ((aa H).1.frame (al w _) (fun _ _ h=>h)) (aa H).2.1 (enters Tryz.func215 (by kernel_rfl) (by kernel_rfl) _) (fun wk sv hf hr=>xt b s.place s.place ⟨w.heap.size,0,none⟩ s.nm sv s.all E wk (((aa H).2.2.aR (al w _)).gn hf hlo) hr ((hf.cell (by simp) (by show ¬ w.heap.size=b;omega)).trans (ua _ _ _)) hl)).mono ?_
 rintro e w' ⟨rfl,hR,hf⟩
 have HR:=ae (And.intro hR hf)
 clear hR hf
 go_wp2_with fail
 go_ret
 exact⟨rfl,(aa HR).1,((al w _).mono (fun _ _ h=>h.elim)).trans (aa HR).2 (fun _ _ h=>h)⟩
theorem vJ (b x:Nat) (most:Int) (F:Nat→Prop) (s:dy) (E:Nat→Addr) (w:World) (hm:most<9223372036854775808) (hg:Gl w E) (h:R w b F s) (hn:s.f=none) (hx:val ((s.all.drop s.place).take 4)=x) (hl:4+s.place≤s.all.length) (hv:(x:Int)≤most) (hxl:x+(s.place+4)≤s.all.length) (hal:s.all.length≤140737488355328) :
  Calls Tryz.prog 195 #[.pointer (some ⟨b,0,none⟩),.int .i64 most] w fun e w'=>∃ ao cap,e = .returned (.slice ao x cap)∧w'.ownsRow w.heap.size 5 1 (.slice ao x cap) x (cellsOf ((s.all.drop (s.place+4)).take x))∧R w' b F { s with place:=s.place+4+x,part:=s.place } ∧ Fr (fun k=>k=b) w w':=by
 have hlt:=h.lt b h.fb
 have hlo:=h.lo b h.fb
 have hmf:=mf
 have H:=ae (And.intro h (And.intro hn hg))
 have HX:=ae hx
 clear h hn hg hx
 go_enter Tryz.func195,Tryz.ntmps195
 go_wp2_with fail
 refine(rl b 223 _ F s (s.place+4+x) x ((s.all.drop (s.place+4)).take x) _ ((aa H).1.frame (aY w _ _) (fun _ _ h=>h)) (aa H).2.1 (enters Tryz.func223 (by kernel_rfl) (by kernel_rfl) _) (fun wk sv hf hr=>rT b s.place s.place x most ⟨w.heap.size,0,none⟩ ⟨w.heap.size+1,0,none⟩ s.nm sv s.all E wk hlo hm (((aa H).2.2.aR (aY w _ _)).gn hf hlo) hr ((hf.cell (by simp <;> omega) (by show ¬ w.heap.size=b;omega)).trans (by simp)) ((hf.cell (by simp) (by show ¬ w.heap.size+1=b;omega)).trans (by simp)) (by show w.heap.size≠b;omega) (aa HX) hl hv hxl hal)).mono ?_
 rintro e w' ⟨ao,cap,rfl,hown,hR,hf⟩
 have HR:=ae (And.intro hown (And.intro hR hf))
 clear hown hR hf
 go_wp2_with fail
 go_ret
 exact⟨ao,cap,rfl,ed (aa HR).1 (by simp;omega),(aa HR).2.1,((aY w _ _).mono (fun _ _ h=>h.elim)).trans (aa HR).2.2 (fun _ _ h=>h)⟩
theorem du (x:Value) (l:List Nat) (w:World) (hw:9≤w.heap.size) (hx:Src w x l) (hl:l.length≤140737488355328) :
  Calls Tryz.prog 84 #[x] w fun e w'=>∃ b F,e = .returned (.pointer (some ⟨b,0,none⟩))∧R w' b F ⟨ByteArray.empty,l,0,0,none⟩∧Fr (fun _=>False) w w'∧∀ k,F k→w.heap.size≤k:=by
 have HX:=ae hx
 clear hx
 go_enter Tryz.func84,Tryz.ntmps84
 go_wp2_with fail
 refine(jG x l w (aa HX) hl).mono ?_
 rintro e w1 ⟨v,rfl,hown,hf⟩
 obtain⟨ao,cap,rfl⟩:=di hown
 have HO:=ae (And.intro hown hf)
 clear hown hf
 go_wp2_with fail
 go_ret
 obtain⟨hown,hf⟩:=aa HO
 have hf1:Fr (fun _=>False) w1 (w1.alloc (.cells #[.string ⟨#[]⟩,.pointer none,.slice ao l.length cap,.int .i64 0,.int .i64 0] 226)):=(Fr.refl _ _).alloc _
 have hwl:=hf.size
 refine⟨w1.heap.size,fun k=>k=w1.heap.size∨∃ o m c,(Value.slice ao l.length cap) = .slice (some ⟨k,o,none⟩) m c,rfl,⟨?_,?_,.inl rfl,.inl ⟨rfl,.slice ao l.length cap,⟨?_,?_,?_,?_,?_,?_,?_,?_,Nat.zero_le _⟩,fun g o m c e=>.inr ⟨o,m,c,e⟩⟩⟩,hf.trans hf1 (fun _ _ h=>h),?_⟩
 ·intro k hk
  rcases hk with rfl|⟨o,m,c,e⟩
  ·simp
  ·have:=(hown.lt k (by rw[e];rfl)).2
   simp;omega
 ·intro k hk
  rcases hk with rfl|⟨o,m,c,e⟩
  ·omega
  ·have:=(hown.lt k (by rw[e];rfl)).1
   omega
 ·simp;rfl
 ·simp
 ·simp
 ·simp
 ·simp
 ·intro i;simp
 ·refine Src.fr (bR hown) hf1 (fun _ _ _ _ _ h=>h)
 ·intro g o m c e
  have h1:=(hown.lt g (by rw[e];rfl)).2
  refine⟨by omega,?_⟩
  rcases hown.2 with ⟨e2,_⟩|⟨g',c',cur,e2,_,_,hc,_⟩
  ·rw[e] at e2;simp at e2
  ·rw[e] at e2
   simp only[Value.slice.injEq] at e2 e
   omega
 ·intro k hk
  rcases hk with rfl|⟨o,m,c,e⟩
  ·exact hwl
  ·exact(hown.lt k (by rw[e];rfl)).1
end Go.Proofs.YtdcopmkgmbiikaaGreatDoor
