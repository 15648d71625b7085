import Derived.Test.YtdcopmkgmbiikaaGreatDoorJRee
set_option maxRecDepth 100000
namespace Go.Proofs.YtdcopmkgmbiikaaGreatDoor
open Go.RowKit
theorem pH (w:World) (v:Value) (t:TypeId) (o1 o2:Obj):(((w.alloc o1).alloc o2).alloc (.cells #[v] t)).frozen? ⟨w.heap.size+1+1,0,none⟩=false:=by
 rw[World.frozen?_alloc_at _ _ _ _ (by simp)]
theorem jY {w w1:World} {b p':Nat} {F:Nat→Prop} {s:dy} {sv V:Value} (h:R w b F s) (hn:s.f=none) (hF:∀ g o m c,sv = .slice (some ⟨g,o,none⟩) m c→F g) (hr:Rc w1 b s.nm sv s.all p' s.place) (hf:Fr (fun k=>k=b) w w1) :
  R ((w1.setCell ⟨w.heap.size+1+1,0,none⟩ V).setCell ⟨w.heap.size+1+1,0,none⟩ V) b F { s with place:=p',part:=s.place } ∧ Fr (fun k=>k=b) w ((w1.setCell ⟨w.heap.size+1+1,0,none⟩ V).setCell ⟨w.heap.size+1+1,0,none⟩ V):=by
 have hlt:=h.lt b h.fb
 have h2:Fr (fun k=>k=w.heap.size+1+1) w1 ((w1.setCell ⟨w.heap.size+1+1,0,none⟩ V).setCell ⟨w.heap.size+1+1,0,none⟩ V):=Fr.setCell (S:=fun k=>k=w.heap.size+1+1) (Fr.setCell (S:=fun k=>k=w.heap.size+1+1) (Fr.refl _ _) (.inl rfl) _) (.inl rfl) _
 have h3:=hf.trans h2 (fun i hi e=>by omega)
 exact⟨h.on hn hF (hr.frame h2 (fun e=>by omega) (fun g o m c e hg=>by have:=h.lt g (hF g o m c e);omega)) h3,h3⟩
theorem pz {wb:World} (b Fc:Nat) (caps:Array Value) (p0 p1 p2:Addr) (nm:ByteArray) (sv old:Value) (all:List Nat) (place part p':Nat) (x:Nat) (h:Rc wb b nm sv all place part)
  (hp0:wb.cell? p0=some (.pointer (some ⟨b,0,none⟩))) (hp1:wb.cell? p1=some (.func (.func Fc) #[] caps)) (hp2:wb.cell? p2=some old) (f2:wb.frozen? p2=false) (n0:p0.block≠b) (n1:p1.block≠b) (n2:p2.block≠b)
  (he:∀ W,(callFunc Fc caps).run Tryz.prog W = .ok (.enter Fc caps) W)
  (hread:∀ wk,Fr (fun k=>k=b) wb wk→Rc wk b nm sv all place place→Calls Tryz.prog Fc caps wk fun e w'=>e = .returned (.int .u8 x)∧Rc w' b nm sv all p' place∧Fr (fun k=>k=b) wk w') :
  Calls Tryz.prog 182 #[.pointer (some ⟨b,0,none⟩),.func (.func 227) #[] #[.pointer (some p0),.pointer (some p1),.pointer (some p2)]] wb fun e w'=>e = .returned (.tuple #[])∧∃ w1,Rc w1 b nm sv all p' place∧Fr (fun k=>k=b) wb w1∧w'=w1.setCell p2 (.int .u8 x):=by
 have hk:Fr (fun _=>False) wb (wb.alloc (.cells #[.pointer (some ⟨b,0,none⟩)] 271)):=(Fr.refl _ _).alloc _
 have hkb:Fr (fun k=>k=b) wb (wb.alloc (.cells #[.pointer (some ⟨b,0,none⟩)] 271)):=(Fr.refl _ _).alloc _
 refine de b 227 _ (fun w'=>∃ w1,Rc w1 b nm sv all p' place∧Fr (fun k=>k=b) wb w1∧w'=w1.setCell p2 (.int .u8 x)) wb h.c1 (enters Tryz.func227 (by kernel_rfl) (by kernel_rfl) _) ?_
 refine(pk b Fc caps p0 p1 p2 nm sv old all place part p' x _ (h.frame hk (fun h=>h) (fun _ _ _ _ _ h=>h)) ((hk.cell (ab hp0) (fun h=>h)).trans hp0) ((hk.cell (ab hp1) (fun h=>h)).trans hp1) ((hk.cell (ab hp2) (fun h=>h)).trans hp2) ((hk.frozen (ab hp2) (fun h=>h)).trans f2) n0 n1 n2 he (fun wk hf hr=>hread wk (hkb.trans hf (fun _ _ h=>h)) hr)).mono ?_
 rintro e w' ⟨rfl,w1,hr,hf,rfl⟩
 exact⟨rfl,w1,hr,hkb.trans hf (fun _ _ h=>h),rfl⟩
theorem qi (b Fc:Nat) (caps:Array Value) (F:Nat→Prop) (s:dy) (p':Nat) (x:Nat) (w:World) (h:R w b F s) (hn:s.f=none) (he:∀ W,(callFunc Fc caps).run Tryz.prog W = .ok (.enter Fc caps) W)
  (hread:∀ wk sv,Fr (fun k=>k=b) w wk→Rc wk b s.nm sv s.all s.place s.place→Calls Tryz.prog Fc caps wk fun e w'=>e = .returned (.int .u8 x)∧Rc w' b s.nm sv s.all p' s.place∧Fr (fun k=>k=b) wk w') :
  Calls Tryz.prog 211 #[.pointer (some ⟨b,0,none⟩),.func (.func Fc) #[] caps] w fun e w'=>e = .returned (.int .u8 x)∧R w' b F { s with place:=p',part:=s.place } ∧ Fr (fun k=>k=b) w w':=by
 obtain⟨sv,hr,hF⟩:=h.rc hn
 have hlt:=h.lt b h.fb
 have hmf:=mf
 have H:=ae (And.intro h (And.intro hn (And.intro hr hF)))
 have HR:=ae hread
 clear h hn hr hF hread
 go_enter Tryz.func211,Tryz.ntmps211
 go_wp2_with fail
 refine(pz b Fc caps ⟨w.heap.size,0,none⟩ ⟨w.heap.size+1,0,none⟩ ⟨w.heap.size+1+1,0,none⟩ s.nm sv _ s.all s.place s.part p' x ((aa H).2.2.1.frame (aI w _ _ _) (fun h=>h) (fun _ _ _ _ _ h=>h)) (lf _ _ _ _ _) (mm _ _ _ _ _) (jW _ _ _ _ _) (pH _ _ _ _ _) (by show w.heap.size≠b;omega) (by show w.heap.size+1≠b;omega) (by show w.heap.size+1+1≠b;omega) he (fun wk hf hr=>aa HR wk sv ((dJ w b _ _ _).trans hf (fun _ _ h=>h)) hr)).mono ?_
 rintro e w' ⟨rfl,w1,hr,hf,rfl⟩
 have hf1:=(dJ w b _ _ _).trans hf (fun _ _ h=>h)
 have hc2:=(hf.cell (p:=⟨w.heap.size+1+1,0,none⟩) (by simp) (by show ¬ w.heap.size+1+1=b;omega)).trans (jW _ _ _ _ _)
 have hz2:=(hf.frozen (p:=⟨w.heap.size+1+1,0,none⟩) (by simp) (by show ¬ w.heap.size+1+1=b;omega)).trans (pH _ _ _ _ _)
 have HH:=ae (And.intro hr hf1)
 clear hr hf1 hf
 go_wp2_with fail
 obtain⟨hR,hF⟩:=jY (V:=.int .u8 x) (aa H).1 (aa H).2.1 (aa H).2.2.2 (aa HH).1 (aa HH).2
 exact bodyPost_ret (v:=.int .u8 x) (by simp[results,Tryz.results211,go_sem,hc2]) rfl ⟨rfl,hR,hF⟩
theorem mD {wb:World} (b Fc:Nat) (caps:Array Value) (p0 p1 p2:Addr) (nm:ByteArray) (sv old:Value) (all:List Nat) (place part p':Nat) (x:Nat) (h:Rc wb b nm sv all place part)
  (hp0:wb.cell? p0=some (.pointer (some ⟨b,0,none⟩))) (hp1:wb.cell? p1=some (.func (.func Fc) #[] caps)) (hp2:wb.cell? p2=some old) (f2:wb.frozen? p2=false) (n0:p0.block≠b) (n1:p1.block≠b) (n2:p2.block≠b)
  (he:∀ W,(callFunc Fc caps).run Tryz.prog W = .ok (.enter Fc caps) W)
  (hread:∀ wk,Fr (fun k=>k=b) wb wk→Rc wk b nm sv all place place→Calls Tryz.prog Fc caps wk fun e w'=>e = .returned (.int .u32 x)∧Rc w' b nm sv all p' place∧Fr (fun k=>k=b) wk w') :
  Calls Tryz.prog 182 #[.pointer (some ⟨b,0,none⟩),.func (.func 228) #[] #[.pointer (some p0),.pointer (some p1),.pointer (some p2)]] wb fun e w'=>e = .returned (.tuple #[])∧∃ w1,Rc w1 b nm sv all p' place∧Fr (fun k=>k=b) wb w1∧w'=w1.setCell p2 (.int .u32 x):=by
 have hk:Fr (fun _=>False) wb (wb.alloc (.cells #[.pointer (some ⟨b,0,none⟩)] 271)):=(Fr.refl _ _).alloc _
 have hkb:Fr (fun k=>k=b) wb (wb.alloc (.cells #[.pointer (some ⟨b,0,none⟩)] 271)):=(Fr.refl _ _).alloc _
 refine de b 228 _ (fun w'=>∃ w1,Rc w1 b nm sv all p' place∧Fr (fun k=>k=b) wb w1∧w'=w1.setCell p2 (.int .u32 x)) wb h.c1 (enters Tryz.func228 (by kernel_rfl) (by kernel_rfl) _) ?_
 refine(mQ b Fc caps p0 p1 p2 nm sv old all place part p' x _ (h.frame hk (fun h=>h) (fun _ _ _ _ _ h=>h)) ((hk.cell (ab hp0) (fun h=>h)).trans hp0) ((hk.cell (ab hp1) (fun h=>h)).trans hp1) ((hk.cell (ab hp2) (fun h=>h)).trans hp2) ((hk.frozen (ab hp2) (fun h=>h)).trans f2) n0 n1 n2 he (fun wk hf hr=>hread wk (hkb.trans hf (fun _ _ h=>h)) hr)).mono ?_
 rintro e w' ⟨rfl,w1,hr,hf,rfl⟩
 exact⟨rfl,w1,hr,hkb.trans hf (fun _ _ h=>h),rfl⟩
theorem oy (b Fc:Nat) (caps:Array Value) (F:Nat→Prop) (s:dy) (p':Nat) (x:Nat) (w:World) (h:R w b F s) (hn:s.f=none) (he:∀ W,(callFunc Fc caps).run Tryz.prog W = .ok (.enter Fc caps) W)
  (hread:∀ wk sv,Fr (fun k=>k=b) w wk→Rc wk b s.nm sv s.all s.place s.place→Calls Tryz.prog Fc caps wk fun e w'=>e = .returned (.int .u32 x)∧Rc w' b s.nm sv s.all p' s.place∧Fr (fun k=>k=b) wk w') :
  Calls Tryz.prog 214 #[.pointer (some ⟨b,0,none⟩),.func (.func Fc) #[] caps] w fun e w'=>e = .returned (.int .u32 x)∧R w' b F { s with place:=p',part:=s.place } ∧ Fr (fun k=>k=b) w w':=by
 obtain⟨sv,hr,hF⟩:=h.rc hn
 have hlt:=h.lt b h.fb
 have hmf:=mf
 have H:=ae (And.intro h (And.intro hn (And.intro hr hF)))
 have HR:=ae hread
 clear h hn hr hF hread
 go_enter Tryz.func214,Tryz.ntmps214
 go_wp2_with fail
 refine(mD b Fc caps ⟨w.heap.size,0,none⟩ ⟨w.heap.size+1,0,none⟩ ⟨w.heap.size+1+1,0,none⟩ s.nm sv _ s.all s.place s.part p' x ((aa H).2.2.1.frame (aI w _ _ _) (fun h=>h) (fun _ _ _ _ _ h=>h)) (lf _ _ _ _ _) (mm _ _ _ _ _) (jW _ _ _ _ _) (pH _ _ _ _ _) (by show w.heap.size≠b;omega) (by show w.heap.size+1≠b;omega) (by show w.heap.size+1+1≠b;omega) he (fun wk hf hr=>aa HR wk sv ((dJ w b _ _ _).trans hf (fun _ _ h=>h)) hr)).mono ?_
 rintro e w' ⟨rfl,w1,hr,hf,rfl⟩
 have hf1:=(dJ w b _ _ _).trans hf (fun _ _ h=>h)
 have hc2:=(hf.cell (p:=⟨w.heap.size+1+1,0,none⟩) (by simp) (by show ¬ w.heap.size+1+1=b;omega)).trans (jW _ _ _ _ _)
 have hz2:=(hf.frozen (p:=⟨w.heap.size+1+1,0,none⟩) (by simp) (by show ¬ w.heap.size+1+1=b;omega)).trans (pH _ _ _ _ _)
 have HH:=ae (And.intro hr hf1)
 clear hr hf1 hf
 go_wp2_with fail
 obtain⟨hR,hF⟩:=jY (V:=.int .u32 x) (aa H).1 (aa H).2.1 (aa H).2.2.2 (aa HH).1 (aa HH).2
 exact bodyPost_ret (v:=.int .u32 x) (by simp[results,Tryz.results214,go_sem,hc2]) rfl ⟨rfl,hR,hF⟩
theorem nj {wb:World} (b Fc:Nat) (caps:Array Value) (p0 p1 p2:Addr) (nm:ByteArray) (sv old:Value) (all:List Nat) (place part p':Nat) (x:ByteArray) (h:Rc wb b nm sv all place part)
  (hp0:wb.cell? p0=some (.pointer (some ⟨b,0,none⟩))) (hp1:wb.cell? p1=some (.func (.func Fc) #[] caps)) (hp2:wb.cell? p2=some old) (f2:wb.frozen? p2=false) (n0:p0.block≠b) (n1:p1.block≠b) (n2:p2.block≠b)
  (he:∀ W,(callFunc Fc caps).run Tryz.prog W = .ok (.enter Fc caps) W)
  (hread:∀ wk,Fr (fun k=>k=b) wb wk→Rc wk b nm sv all place place→Calls Tryz.prog Fc caps wk fun e w'=>e = .returned (.string x)∧Rc w' b nm sv all p' place∧Fr (fun k=>k=b) wk w') :
  Calls Tryz.prog 182 #[.pointer (some ⟨b,0,none⟩),.func (.func 230) #[] #[.pointer (some p0),.pointer (some p1),.pointer (some p2)]] wb fun e w'=>e = .returned (.tuple #[])∧∃ w1,Rc w1 b nm sv all p' place∧Fr (fun k=>k=b) wb w1∧w'=w1.setCell p2 (.string x):=by
 have hk:Fr (fun _=>False) wb (wb.alloc (.cells #[.pointer (some ⟨b,0,none⟩)] 271)):=(Fr.refl _ _).alloc _
 have hkb:Fr (fun k=>k=b) wb (wb.alloc (.cells #[.pointer (some ⟨b,0,none⟩)] 271)):=(Fr.refl _ _).alloc _
 refine de b 230 _ (fun w'=>∃ w1,Rc w1 b nm sv all p' place∧Fr (fun k=>k=b) wb w1∧w'=w1.setCell p2 (.string x)) wb h.c1 (enters Tryz.func230 (by kernel_rfl) (by kernel_rfl) _) ?_
 refine(mC b Fc caps p0 p1 p2 nm sv old all place part p' x _ (h.frame hk (fun h=>h) (fun _ _ _ _ _ h=>h)) ((hk.cell (ab hp0) (fun h=>h)).trans hp0) ((hk.cell (ab hp1) (fun h=>h)).trans hp1) ((hk.cell (ab hp2) (fun h=>h)).trans hp2) ((hk.frozen (ab hp2) (fun h=>h)).trans f2) n0 n1 n2 he (fun wk hf hr=>hread wk (hkb.trans hf (fun _ _ h=>h)) hr)).mono ?_
 rintro e w' ⟨rfl,w1,hr,hf,rfl⟩
 exact⟨rfl,w1,hr,hkb.trans hf (fun _ _ h=>h),rfl⟩
theorem oc (b Fc:Nat) (caps:Array Value) (F:Nat→Prop) (s:dy) (p':Nat) (x:ByteArray) (w:World) (h:R w b F s) (hn:s.f=none) (he:∀ W,(callFunc Fc caps).run Tryz.prog W = .ok (.enter Fc caps) W)
  (hread:∀ wk sv,Fr (fun k=>k=b) w wk→Rc wk b s.nm sv s.all s.place s.place→Calls Tryz.prog Fc caps wk fun e w'=>e = .returned (.string x)∧Rc w' b s.nm sv s.all p' s.place∧Fr (fun k=>k=b) wk w') :
  Calls Tryz.prog 218 #[.pointer (some ⟨b,0,none⟩),.func (.func Fc) #[] caps] w fun e w'=>e = .returned (.string x)∧R w' b F { s with place:=p',part:=s.place } ∧ Fr (fun k=>k=b) w w':=by
 obtain⟨sv,hr,hF⟩:=h.rc hn
 have hlt:=h.lt b h.fb
 have hmf:=mf
 have H:=ae (And.intro h (And.intro hn (And.intro hr hF)))
 have HR:=ae hread
 clear h hn hr hF hread
 go_enter Tryz.func218,Tryz.ntmps218
 go_wp2_with fail
 refine(nj b Fc caps ⟨w.heap.size,0,none⟩ ⟨w.heap.size+1,0,none⟩ ⟨w.heap.size+1+1,0,none⟩ s.nm sv _ s.all s.place s.part p' x ((aa H).2.2.1.frame (aI w _ _ _) (fun h=>h) (fun _ _ _ _ _ h=>h)) (lf _ _ _ _ _) (mm _ _ _ _ _) (jW _ _ _ _ _) (pH _ _ _ _ _) (by show w.heap.size≠b;omega) (by show w.heap.size+1≠b;omega) (by show w.heap.size+1+1≠b;omega) he (fun wk hf hr=>aa HR wk sv ((dJ w b _ _ _).trans hf (fun _ _ h=>h)) hr)).mono ?_
 rintro e w' ⟨rfl,w1,hr,hf,rfl⟩
 have hf1:=(dJ w b _ _ _).trans hf (fun _ _ h=>h)
 have hc2:=(hf.cell (p:=⟨w.heap.size+1+1,0,none⟩) (by simp) (by show ¬ w.heap.size+1+1=b;omega)).trans (jW _ _ _ _ _)
 have hz2:=(hf.frozen (p:=⟨w.heap.size+1+1,0,none⟩) (by simp) (by show ¬ w.heap.size+1+1=b;omega)).trans (pH _ _ _ _ _)
 have HH:=ae (And.intro hr hf1)
 clear hr hf1 hf
 go_wp2_with fail
 obtain⟨hR,hF⟩:=jY (V:=.string x) (aa H).1 (aa H).2.1 (aa H).2.2.2 (aa HH).1 (aa HH).2
 exact bodyPost_ret (v:=.string x) (by simp[results,Tryz.results218,go_sem,hc2]) rfl ⟨rfl,hR,hF⟩
theorem sb {wb:World} (b Fc:Nat) (caps:Array Value) (p0 p1 p2:Addr) (nm:ByteArray) (sv old:Value) (all:List Nat) (place part p':Nat) (x:Int) (h:Rc wb b nm sv all place part)
  (hp0:wb.cell? p0=some (.pointer (some ⟨b,0,none⟩))) (hp1:wb.cell? p1=some (.func (.func Fc) #[] caps)) (hp2:wb.cell? p2=some old) (f2:wb.frozen? p2=false) (n0:p0.block≠b) (n1:p1.block≠b) (n2:p2.block≠b)
  (he:∀ W,(callFunc Fc caps).run Tryz.prog W = .ok (.enter Fc caps) W)
  (hread:∀ wk,Fr (fun k=>k=b) wb wk→Rc wk b nm sv all place place→Calls Tryz.prog Fc caps wk fun e w'=>e = .returned (.int .i64 x)∧Rc w' b nm sv all p' place∧Fr (fun k=>k=b) wk w') :
  Calls Tryz.prog 182 #[.pointer (some ⟨b,0,none⟩),.func (.func 232) #[] #[.pointer (some p0),.pointer (some p1),.pointer (some p2)]] wb fun e w'=>e = .returned (.tuple #[])∧∃ w1,Rc w1 b nm sv all p' place∧Fr (fun k=>k=b) wb w1∧w'=w1.setCell p2 (.int .i64 x):=by
 have hk:Fr (fun _=>False) wb (wb.alloc (.cells #[.pointer (some ⟨b,0,none⟩)] 271)):=(Fr.refl _ _).alloc _
 have hkb:Fr (fun k=>k=b) wb (wb.alloc (.cells #[.pointer (some ⟨b,0,none⟩)] 271)):=(Fr.refl _ _).alloc _
 refine de b 232 _ (fun w'=>∃ w1,Rc w1 b nm sv all p' place∧Fr (fun k=>k=b) wb w1∧w'=w1.setCell p2 (.int .i64 x)) wb h.c1 (enters Tryz.func232 (by kernel_rfl) (by kernel_rfl) _) ?_
 refine(tw b Fc caps p0 p1 p2 nm sv old all place part p' x _ (h.frame hk (fun h=>h) (fun _ _ _ _ _ h=>h)) ((hk.cell (ab hp0) (fun h=>h)).trans hp0) ((hk.cell (ab hp1) (fun h=>h)).trans hp1) ((hk.cell (ab hp2) (fun h=>h)).trans hp2) ((hk.frozen (ab hp2) (fun h=>h)).trans f2) n0 n1 n2 he (fun wk hf hr=>hread wk (hkb.trans hf (fun _ _ h=>h)) hr)).mono ?_
 rintro e w' ⟨rfl,w1,hr,hf,rfl⟩
 exact⟨rfl,w1,hr,hkb.trans hf (fun _ _ h=>h),rfl⟩
theorem vD (b Fc:Nat) (caps:Array Value) (F:Nat→Prop) (s:dy) (p':Nat) (x:Int) (w:World) (h:R w b F s) (hn:s.f=none) (he:∀ W,(callFunc Fc caps).run Tryz.prog W = .ok (.enter Fc caps) W)
  (hread:∀ wk sv,Fr (fun k=>k=b) w wk→Rc wk b s.nm sv s.all s.place s.place→Calls Tryz.prog Fc caps wk fun e w'=>e = .returned (.int .i64 x)∧Rc w' b s.nm sv s.all p' s.place∧Fr (fun k=>k=b) wk w') :
  Calls Tryz.prog 224 #[.pointer (some ⟨b,0,none⟩),.func (.func Fc) #[] caps] w fun e w'=>e = .returned (.int .i64 x)∧R w' b F { s with place:=p',part:=s.place } ∧ Fr (fun k=>k=b) w w':=by
 obtain⟨sv,hr,hF⟩:=h.rc hn
 have hlt:=h.lt b h.fb
 have hmf:=mf
 have H:=ae (And.intro h (And.intro hn (And.intro hr hF)))
 have HR:=ae hread
 clear h hn hr hF hread
 go_enter Tryz.func224,Tryz.ntmps224
 go_wp2_with fail
 refine(sb b Fc caps ⟨w.heap.size,0,none⟩ ⟨w.heap.size+1,0,none⟩ ⟨w.heap.size+1+1,0,none⟩ s.nm sv _ s.all s.place s.part p' x ((aa H).2.2.1.frame (aI w _ _ _) (fun h=>h) (fun _ _ _ _ _ h=>h)) (lf _ _ _ _ _) (mm _ _ _ _ _) (jW _ _ _ _ _) (pH _ _ _ _ _) (by show w.heap.size≠b;omega) (by show w.heap.size+1≠b;omega) (by show w.heap.size+1+1≠b;omega) he (fun wk hf hr=>aa HR wk sv ((dJ w b _ _ _).trans hf (fun _ _ h=>h)) hr)).mono ?_
 rintro e w' ⟨rfl,w1,hr,hf,rfl⟩
 have hf1:=(dJ w b _ _ _).trans hf (fun _ _ h=>h)
 have hc2:=(hf.cell (p:=⟨w.heap.size+1+1,0,none⟩) (by simp) (by show ¬ w.heap.size+1+1=b;omega)).trans (jW _ _ _ _ _)
 have hz2:=(hf.frozen (p:=⟨w.heap.size+1+1,0,none⟩) (by simp) (by show ¬ w.heap.size+1+1=b;omega)).trans (pH _ _ _ _ _)
 have HH:=ae (And.intro hr hf1)
 clear hr hf1 hf
 go_wp2_with fail
 obtain⟨hR,hF⟩:=jY (V:=.int .i64 x) (aa H).1 (aa H).2.1 (aa H).2.2.2 (aa HH).1 (aa HH).2
 exact bodyPost_ret (v:=.int .i64 x) (by simp[results,Tryz.results224,go_sem,hc2]) rfl ⟨rfl,hR,hF⟩
end Go.Proofs.YtdcopmkgmbiikaaGreatDoor
