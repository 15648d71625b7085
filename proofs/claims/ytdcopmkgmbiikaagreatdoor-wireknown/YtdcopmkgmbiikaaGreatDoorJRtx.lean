import Derived.Test.YtdcopmkgmbiikaaGreatDoorJRfl
set_option maxRecDepth 100000
set_option maxHeartbeats 1000000
namespace Go.Proofs.YtdcopmkgmbiikaaGreatDoor
open Go.RowKit
theorem vX {w w1 w2 w3:World} {b place part x:Nat} {nm:ByteArray} {sv:Value} {all:List Nat} (hf:Fr (fun k=>k=b) w.drew w1) (hr2:Rc w2 b nm sv all (place+4+x) part) (hf2:Fr (fun k=>k=b) w1 w2) (hf3:Fr (fun _=>False) w2 w3) :
  Rc w3 b nm sv all (place+4+x) part∧Fr (fun k=>k=b) w w3:=by
 have hf0:Fr (fun k=>k=b) w w1:=⟨hf.os,hf.tape,hf.output,hf.size,hf.block⟩
 exact⟨hr2.frame hf3 (fun h=>h) (fun _ _ _ _ _ h=>h),(hf0.trans hf2 (fun _ _ h=>h)).trans hf3 (fun _ _ h=>h.elim)⟩
theorem vw (b place part x:Nat) (most:Int) (p0 p1:Addr) (nm:ByteArray) (sv:Value) (all:List Nat) (E:Nat→Addr) (w:World) (hb:9≤b) (hm:most<9223372036854775808) (hg:Gl w E) (h:Rc w b nm sv all place part)
  (hp0:w.cell? p0=some (.pointer (some ⟨b,0,none⟩))) (hp1:w.cell? p1=some (.int .i64 most)) (n0:p0.block≠b) (hx:val ((all.drop place).take 4)=x) (hn:4+place≤all.length) (hv:(x:Int)≤most) (hxl:x+(place+4)≤all.length) :
  Calls Tryz.prog 219 #[.pointer (some p0),.pointer (some p1)] w fun e w'=>e = .returned (.string (strOf ((all.drop (place+4)).take x)))∧Rc w' b nm sv all (place+4+x) part∧Fr (fun k=>k=b) w w':=by
 have HC:=ae (fL b place part most nm sv all E w.drew hb hm hg.drew h.drew hn (by rw[hx];exact hv))
 rw[hx] at HC
 have HG:=ae hg
 have H:=ae h
 have hlt:b<w.heap.size:=ab h.c0
 have hp0lt:=ab hp0
 clear hg h hx
 go_enter Tryz.func219,Tryz.ntmps219
 go_wp2_with fail
 go_region_with (first
  | (go_at_call 221;refine(aa HC).mono ?_;rintro e w1 ⟨rfl,hr,hf⟩;have q0:w1.cell? p0=some (.pointer (some ⟨b,0,none⟩)):=(hf.cell hp0lt n0).trans hp0;have HR:=ae (And.intro hr hf);clear hr hf)
  | (go_at_call 220;refine(oA b x (place+4) part nm sv all E w1 ((aa HG).drew.gn (aa HR).2 hb) (aa HR).1 hxl).mono ?_;rintro e w2 ⟨v,rfl,hsrc,hr2,hf2⟩;have hcv:=vC w2 v _ hsrc;have HR2:=ae (And.intro hsrc (And.intro hr2 hf2));clear hsrc hr2 hf2))
 all_goals
  have hres:=vX (aa HR).2 (aa HR2).2.1 (aa HR2).2.2 (Fr.refl _ _)
  have HE:=ae hres
  clear hres
  go_wp2
  go_ret
  exact⟨rfl,aa HE⟩
theorem ym (b x:Nat) (most:Int) (F:Nat→Prop) (s:dy) (E:Nat→Addr) (w:World) (hm:most<9223372036854775808) (hg:Gl w E) (h:R w b F s) (hn:s.f=none) (hx:val ((s.all.drop s.place).take 4)=x) (hl:4+s.place≤s.all.length) (hv:(x:Int)≤most) (hxl:x+(s.place+4)≤s.all.length) :
  Calls Tryz.prog 194 #[.pointer (some ⟨b,0,none⟩),.int .i64 most] w fun e w'=>e = .returned (.string (strOf ((s.all.drop (s.place+4)).take x)))∧R w' b F { s with place:=s.place+4+x,part:=s.place } ∧ Fr (fun k=>k=b) w w':=by
 have hlt:=h.lt b h.fb
 have hlo:=h.lo b h.fb
 have hmf:=mf
 have H:=ae (And.intro h (And.intro hn hg))
 have HX:=ae hx
 clear h hn hg hx
 go_enter Tryz.func194,Tryz.ntmps194
 go_wp2_with fail
 refine(oc b 219 _ F s (s.place+4+x) (strOf ((s.all.drop (s.place+4)).take x)) _ ((aa H).1.frame (aY w _ _) (fun _ _ h=>h)) (aa H).2.1 (enters Tryz.func219 (by kernel_rfl) (by kernel_rfl) _) (fun wk sv hf hr=>vw b s.place s.place x most ⟨w.heap.size,0,none⟩ ⟨w.heap.size+1,0,none⟩ s.nm sv s.all E wk hlo hm (((aa H).2.2.aR (aY w _ _)).gn hf hlo) hr ((hf.cell (by simp <;> omega) (by show ¬ w.heap.size=b;omega)).trans (by simp)) ((hf.cell (by simp) (by show ¬ w.heap.size+1=b;omega)).trans (by simp)) (by show w.heap.size≠b;omega) (aa HX) hl hv hxl)).mono ?_
 rintro e w' ⟨rfl,hR,hf⟩
 have HR:=ae (And.intro hR hf)
 clear hR hf
 go_wp2_with fail
 go_ret
 exact⟨rfl,(aa HR).1,((aY w _ _).mono (fun _ _ h=>h.elim)).trans (aa HR).2 (fun _ _ h=>h)⟩
theorem uQ (b:Nat) (most:Int) (F:Nat→Prop) (s:dy) (E:Nat→Addr) (w:World) (hm:most<9223372036854775808) (hg:Gl w E) (h:R w b F s) (hn:s.f=none) (hl:4+s.place≤s.all.length) (hv:(val ((s.all.drop s.place).take 4):Int)≤most) :
  Calls Tryz.prog 196 #[.pointer (some ⟨b,0,none⟩),.int .i64 most] w fun e w'=>e = .returned (.int .i64 (val ((s.all.drop s.place).take 4)))∧R w' b F { s with place:=s.place+4,part:=s.place } ∧ Fr (fun k=>k=b) w w':=by
 have hlt:=h.lt b h.fb
 have hlo:=h.lo b h.fb
 have hmf:=mf
 have H:=ae (And.intro h (And.intro hn hg))
 clear h hn hg
 go_enter Tryz.func196,Tryz.ntmps196
 go_wp2_with fail
 refine(vD b 225 _ F s (s.place+4) (val ((s.all.drop s.place).take 4)) _ ((aa H).1.frame (aY w _ _) (fun _ _ h=>h)) (aa H).2.1 (enters Tryz.func225 (by kernel_rfl) (by kernel_rfl) _) (fun wk sv hf hr=>tI b s.place s.place most ⟨w.heap.size,0,none⟩ ⟨w.heap.size+1,0,none⟩ s.nm sv s.all E wk hlo hm (((aa H).2.2.aR (aY w _ _)).gn hf hlo) hr ((hf.cell (by simp <;> omega) (by show ¬ w.heap.size=b;omega)).trans (by simp)) ((hf.cell (by simp) (by show ¬ w.heap.size+1=b;omega)).trans (by simp)) hl hv)).mono ?_
 rintro e w' ⟨rfl,hR,hf⟩
 have HR:=ae (And.intro hR hf)
 clear hR hf
 go_wp2_with fail
 go_ret
 exact⟨rfl,(aa HR).1,((aY w _ _).mono (fun _ _ h=>h.elim)).trans (aa HR).2 (fun _ _ h=>h)⟩
theorem yU (b:Nat) (F:Nat→Prop) (s:dy) (E:Nat→Addr) (er:Addr) (w:World) (hg:Gl w E) (hr:Rg w er) (h:R w b F s) (hn:s.f=none) (hl:4+s.place≤s.all.length) (hq:bM (val ((s.all.drop s.place).take 4))=true) :
  Calls Tryz.prog 193 #[.pointer (some ⟨b,0,none⟩)] w fun e w'=>e = .returned (.float .f32 (val ((s.all.drop s.place).take 4)))∧R w' b F { s with place:=s.place+4,part:=s.place } ∧ Fr (fun k=>k=b) w w':=by
 have hlt:=h.lt b h.fb
 have hlo:=h.lo b h.fb
 have hmf:=mf
 have H:=ae (And.intro h (And.intro hn (And.intro hg hr)))
 clear h hn hg hr
 go_enter Tryz.func193,Tryz.ntmps193
 go_wp2_with fail
 refine(mA b 217 _ F s (s.place+4) (val ((s.all.drop s.place).take 4)) _ ((aa H).1.frame (al w _) (fun _ _ h=>h)) (aa H).2.1 (enters Tryz.func217 (by kernel_rfl) (by kernel_rfl) _) (fun wk sv hf hr=>yI b s.place s.place ⟨w.heap.size,0,none⟩ er s.nm sv s.all E wk hlo (((aa H).2.2.1.aR (al w _)).gn hf hlo) (((aa H).2.2.2.aR (al w _)).fr hf (fun k e=>by have h':k=b:=e;omega)) hr (by show w.heap.size≠b;omega) ((hf.cell (by simp) (by show ¬ w.heap.size=b;omega)).trans (by simp)) hl hq)).mono ?_
 rintro e w' ⟨rfl,hR,hf⟩
 have HR:=ae (And.intro hR hf)
 clear hR hf
 go_wp2_with fail
 go_ret
 exact⟨rfl,(aa HR).1,((al w _).mono (fun _ _ h=>h.elim)).trans (aa HR).2 (fun _ _ h=>h)⟩
theorem wU (b:Nat) (x:ByteArray) (F:Nat→Prop) (s:dy) (w:World) (h:R w b F s) (hn:s.f=none) :
  Calls Tryz.prog 85 #[.pointer (some ⟨b,0,none⟩),.string x] w fun e w'=>e = .returned (.tuple #[])∧R w' b F { s with nm:=x } ∧ Fr (fun k=>k=b) w w':=by
 obtain⟨sv,hr,hF⟩:=h.rc hn
 have h0:=hr.c0
 have z0:=hr.fz 0
 have H:=ae (And.intro h (And.intro hn (And.intro hr hF)))
 clear h hn hr hF
 go_enter Tryz.func85,Tryz.ntmps85
 go_wp2
 go_end0
 have hc:∀ i,i≠0→(w.setCell ⟨b,0,none⟩ (.string x)).cell? ⟨b,i,none⟩=w.cell? ⟨b,i,none⟩:=fun i hi=>World.cell?_setCell_other _ _ _ _ (by intro h;injection h with _ h2 _;exact hi h2.symm)
 obtain⟨h,hn,hr,hF⟩:=aa H
 have hf:Fr (fun k=>k=b) w (w.setCell ⟨b,0,none⟩ (.string x)):=Fr.setCell (S:=fun k=>k=b) (Fr.refl _ _) (.inl rfl) _
 refine⟨rfl,⟨fun k hk=>by rw[World.size_setCell];exact h.lt k hk,h.lo,h.fb,.inl ⟨hn,sv,⟨World.cell?_setCell_same _ _ _ h0,(hc 1 (by decide)).trans hr.c1,(hc 2 (by decide)).trans hr.c2,(hc 3 (by decide)).trans hr.c3,(hc 4 (by decide)).trans hr.c4,fun i=>by rw[World.frozen?_setCell];exact hr.fz i,hr.src.fr hf (fun g o m c e=>(hr.ns g o m c e).1),hr.ns,hr.le⟩,hF⟩⟩,hf⟩
end Go.Proofs.YtdcopmkgmbiikaaGreatDoor
