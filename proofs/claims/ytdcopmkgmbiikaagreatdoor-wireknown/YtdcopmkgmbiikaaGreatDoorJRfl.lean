import Derived.Test.YtdcopmkgmbiikaaGreatDoorJFlu
import Derived.Laws.IdiomStrings
import Derived.Lib.BufferRead
set_option maxRecDepth 100000
set_option maxHeartbeats 400000
namespace Go.Proofs.YtdcopmkgmbiikaaGreatDoor
open Go.RowKit
@[go_sem] theorem run_store_float (P:Program) (w:World) (a:Addr) (m:Mode) (k:FloatKind) (x:Nat):(store a (.float k x) m).run P w=stored P w a (.float k x) m:=run_store P w a _ m rfl
theorem lj (b Fc:Nat) (caps:Array Value) (p0 p1 p2:Addr) (nm:ByteArray) (sv old:Value) (all:List Nat) (place part p':Nat) (x:Nat) (w:World) (h:Rc w b nm sv all place part)
  (hp0:w.cell? p0=some (.pointer (some ⟨b,0,none⟩))) (hp1:w.cell? p1=some (.func (.func Fc) #[] caps)) (hp2:w.cell? p2=some old) (f2:w.frozen? p2=false) (n0:p0.block≠b) (n1:p1.block≠b) (n2:p2.block≠b)
  (he:∀ W,(callFunc Fc caps).run Tryz.prog W = .ok (.enter Fc caps) W)
  (hread:∀ wk,Fr (fun k=>k=b) w wk→Rc wk b nm sv all place place→Calls Tryz.prog Fc caps wk fun e w'=>e = .returned (.float .f32 x)∧Rc w' b nm sv all p' place∧Fr (fun k=>k=b) wk w') :
  Calls Tryz.prog 229 #[.pointer (some p0),.pointer (some p1),.pointer (some p2)] w fun e w'=>e = .returned (.tuple #[])∧∃ w1,Rc w1 b nm sv all p' place∧Fr (fun k=>k=b) w w1∧w'=w1.setCell p2 (.float .f32 x):=by
 have HR:=ae hread
 have HP:=ae (h.ey place)
 have h3:=h.c3
 have h4:=h.c4
 have z4:=h.fz 4
 have q1:(w.setCell ⟨b,4,none⟩ (.int .i64 place)).drew.cell? p1=some (.func (.func Fc) #[] caps):=((aa HP).2.cell (ab hp1) n1).trans hp1
 have q0:(w.setCell ⟨b,4,none⟩ (.int .i64 place)).drew.cell? p0=some (.pointer (some ⟨b,0,none⟩)):=((aa HP).2.cell (ab hp0) n0).trans hp0
 have l2:=ab hp2
 have P2:=ae hp2
 have F2:=ae f2
 clear hread h hp1 hp2 f2
 simp only[World.cell?_drew] at q1 q0
 go_enter Tryz.func229,Tryz.ntmps229
 go_wp2_with fail
 go_region
 all_goals
  go_wp2_with fail
  refine(aa HR _ (aa HP).2 (aa HP).1).mono ?_
  rintro e w1 ⟨rfl,hr,hf⟩
  have hf':=(aa HP).2.trans hf (fun _ _ h=>h)
  have r2:=(hf'.cell l2 n2).trans (aa P2)
  have g2:=(hf'.frozen l2 n2).trans (aa F2)
  go_wp2_with fail
  go_end0
  exact⟨rfl,w1,hr,hf',rfl⟩
theorem lr {wb:World} (b Fc:Nat) (caps:Array Value) (p0 p1 p2:Addr) (nm:ByteArray) (sv old:Value) (all:List Nat) (place part p':Nat) (x:Nat) (h:Rc wb b nm sv all place part)
  (hp0:wb.cell? p0=some (.pointer (some ⟨b,0,none⟩))) (hp1:wb.cell? p1=some (.func (.func Fc) #[] caps)) (hp2:wb.cell? p2=some old) (f2:wb.frozen? p2=false) (n0:p0.block≠b) (n1:p1.block≠b) (n2:p2.block≠b)
  (he:∀ W,(callFunc Fc caps).run Tryz.prog W = .ok (.enter Fc caps) W)
  (hread:∀ wk,Fr (fun k=>k=b) wb wk→Rc wk b nm sv all place place→Calls Tryz.prog Fc caps wk fun e w'=>e = .returned (.float .f32 x)∧Rc w' b nm sv all p' place∧Fr (fun k=>k=b) wk w') :
  Calls Tryz.prog 182 #[.pointer (some ⟨b,0,none⟩),.func (.func 229) #[] #[.pointer (some p0),.pointer (some p1),.pointer (some p2)]] wb fun e w'=>e = .returned (.tuple #[])∧∃ w1,Rc w1 b nm sv all p' place∧Fr (fun k=>k=b) wb w1∧w'=w1.setCell p2 (.float .f32 x):=by
 have hk:Fr (fun _=>False) wb (wb.alloc (.cells #[.pointer (some ⟨b,0,none⟩)] 271)):=(Fr.refl _ _).alloc _
 have hkb:Fr (fun k=>k=b) wb (wb.alloc (.cells #[.pointer (some ⟨b,0,none⟩)] 271)):=(Fr.refl _ _).alloc _
 refine de b 229 _ (fun w'=>∃ w1,Rc w1 b nm sv all p' place∧Fr (fun k=>k=b) wb w1∧w'=w1.setCell p2 (.float .f32 x)) wb h.c1 (enters Tryz.func229 (by kernel_rfl) (by kernel_rfl) _) ?_
 refine(lj b Fc caps p0 p1 p2 nm sv old all place part p' x _ (h.frame hk (fun h=>h) (fun _ _ _ _ _ h=>h)) ((hk.cell (ab hp0) (fun h=>h)).trans hp0) ((hk.cell (ab hp1) (fun h=>h)).trans hp1) ((hk.cell (ab hp2) (fun h=>h)).trans hp2) ((hk.frozen (ab hp2) (fun h=>h)).trans f2) n0 n1 n2 he (fun wk hf hr=>hread wk (hkb.trans hf (fun _ _ h=>h)) hr)).mono ?_
 rintro e w' ⟨rfl,w1,hr,hf,rfl⟩
 exact⟨rfl,w1,hr,hkb.trans hf (fun _ _ h=>h),rfl⟩
theorem mA (b Fc:Nat) (caps:Array Value) (F:Nat→Prop) (s:dy) (p':Nat) (x:Nat) (w:World) (h:R w b F s) (hn:s.f=none) (he:∀ W,(callFunc Fc caps).run Tryz.prog W = .ok (.enter Fc caps) W)
  (hread:∀ wk sv,Fr (fun k=>k=b) w wk→Rc wk b s.nm sv s.all s.place s.place→Calls Tryz.prog Fc caps wk fun e w'=>e = .returned (.float .f32 x)∧Rc w' b s.nm sv s.all p' s.place∧Fr (fun k=>k=b) wk w') :
  Calls Tryz.prog 216 #[.pointer (some ⟨b,0,none⟩),.func (.func Fc) #[] caps] w fun e w'=>e = .returned (.float .f32 x)∧R w' b F { s with place:=p',part:=s.place } ∧ Fr (fun k=>k=b) w w':=by
 obtain⟨sv,hr,hF⟩:=h.rc hn
 have hlt:=h.lt b h.fb
 have hmf:=mf
 have H:=ae (And.intro h (And.intro hn (And.intro hr hF)))
 have HR:=ae hread
 clear h hn hr hF hread
 go_enter Tryz.func216,Tryz.ntmps216
 go_wp2_with fail
 refine(lr b Fc caps ⟨w.heap.size,0,none⟩ ⟨w.heap.size+1,0,none⟩ ⟨w.heap.size+1+1,0,none⟩ s.nm sv _ s.all s.place s.part p' x ((aa H).2.2.1.frame (aI w _ _ _) (fun h=>h) (fun _ _ _ _ _ h=>h)) (lf _ _ _ _ _) (mm _ _ _ _ _) (jW _ _ _ _ _) (pH _ _ _ _ _) (by show w.heap.size≠b;omega) (by show w.heap.size+1≠b;omega) (by show w.heap.size+1+1≠b;omega) he (fun wk hf hr=>aa HR wk sv ((dJ w b _ _ _).trans hf (fun _ _ h=>h)) hr)).mono ?_
 rintro e w' ⟨rfl,w1,hr,hf,rfl⟩
 have hf1:=(dJ w b _ _ _).trans hf (fun _ _ h=>h)
 have hc2:=(hf.cell (p:=⟨w.heap.size+1+1,0,none⟩) (by simp) (by show ¬ w.heap.size+1+1=b;omega)).trans (jW _ _ _ _ _)
 have hz2:=(hf.frozen (p:=⟨w.heap.size+1+1,0,none⟩) (by simp) (by show ¬ w.heap.size+1+1=b;omega)).trans (pH _ _ _ _ _)
 have HH:=ae (And.intro hr hf1)
 clear hr hf1 hf
 go_wp2_with fail
 obtain⟨hR,hF⟩:=jY (V:=.float .f32 x) (aa H).1 (aa H).2.1 (aa H).2.2.2 (aa HH).1 (aa HH).2
 exact bodyPost_ret (v:=.float .f32 x) (by simp[results,Tryz.results216,go_sem,hc2]) rfl ⟨rfl,hR,hF⟩
def strOf (l:List Nat):ByteArray:=⟨(l.map UInt8.ofNat).toArray⟩
theorem vC (w:World) (v:Value) (l:List Nat) (h:Src w v l):(convert 23 9 v).run Tryz.prog w = .ok (.string (strOf l)) w:=by
 rcases h with ⟨rfl,rfl⟩|⟨g,o,c,rfl,hc⟩|⟨a,c,rfl,rfl⟩
 ·rw[Lib.run_convert_nil_bytes w 23 9 5 0 Tryz.underlying23 Tryz.underlying5 Tryz.underlying9];rfl
 ·have h:=run_convert_bytes_back (P:=Tryz.prog) w 23 9 5 ⟨g,o,none⟩ c (l.map UInt8.ofNat) Tryz.underlying23 Tryz.underlying5 Tryz.underlying9 (fun j hj=>by
   have hj':j<l.length:=by simpa using hj
   have:=hc j (B l[j]) (by simp[cellsOf,hj'])
   have e:(⟨g,o,none⟩:Addr).add j=⟨g,o+j,none⟩:=by unfold Addr.add;split <;> simp_all
   rw[e,this]
   simp[B])
  simpa[strOf] using h
 ·have h:=run_convert_bytes_back (P:=Tryz.prog) w 23 9 5 a c [] Tryz.underlying23 Tryz.underlying5 Tryz.underlying9 (fun j hj=>by simp at hj)
  simpa[strOf] using h
theorem tI (b place part:Nat) (most:Int) (p0 p1:Addr) (nm:ByteArray) (sv:Value) (all:List Nat) (E:Nat→Addr) (w:World) (hb:9≤b) (hm:most<9223372036854775808) (hg:Gl w E) (h:Rc w b nm sv all place part)
  (hp0:w.cell? p0=some (.pointer (some ⟨b,0,none⟩))) (hp1:w.cell? p1=some (.int .i64 most)) (hn:4+place≤all.length) (hv:(val ((all.drop place).take 4):Int)≤most) :
  Calls Tryz.prog 225 #[.pointer (some p0),.pointer (some p1)] w fun e w'=>e = .returned (.int .i64 (val ((all.drop place).take 4)))∧Rc w' b nm sv all (place+4) part∧Fr (fun k=>k=b) w w':=by
 have HC:=ae (fL b place part most nm sv all E w hb hm hg h hn hv)
 clear hg h
 generalize val ((all.drop place).take 4)=x at *
 go_enter Tryz.func225,Tryz.ntmps225
 go_wp2_with fail
 refine(aa HC).mono ?_
 rintro e w1 ⟨rfl,hr⟩
 have HR:=ae hr
 clear hr HC
 go_wp2_with fail
 go_ret
 exact⟨rfl,aa HR⟩
theorem yI (b place part:Nat) (p0 er:Addr) (nm:ByteArray) (sv:Value) (all:List Nat) (E:Nat→Addr) (w:World) (hb:9≤b) (hg:Gl w E) (hr:Rg w er) (h:Rc w b nm sv all place part) (n0:p0.block≠b)
  (hp0:w.cell? p0=some (.pointer (some ⟨b,0,none⟩))) (hn:4+place≤all.length) (hq:bM (val ((all.drop place).take 4))=true) :
  Calls Tryz.prog 217 #[.pointer (some p0)] w fun e w'=>e = .returned (.float .f32 (val ((all.drop place).take 4)))∧Rc w' b nm sv all (place+4) part∧Fr (fun k=>k=b) w w':=by
 have HT:=ae (dw b 4 place part nm sv all E w (by decide) hg h hn)
 have hlt:val ((all.drop place).take 4)<4294967296:=by
  have h1:=gD ((all.drop place).take 4)
  have h2:((all.drop place).take 4).length=4:=by simp;omega
  rw[h2] at h1;exact h1
 have hp0lt:=ab hp0
 have HG:=ae hr
 clear hg h hr
 generalize val ((all.drop place).take 4)=x at *
 have hw:IntKind.u32.wrap (x:Int)=(x:Int):=by rw[IntKind.wrap_u32];omega
 have hff:=Tryz.Cx
 have hnot:∀ (x:Bool) (w:World),(Op.unary .not (.bool x)).run Tryz.prog w = .ok (.bool (!x)) w:=fun _ _=>rfl
 go_enter Tryz.func217,Tryz.ntmps217
 go_wp2_with fail
 refine(aa HT).mono ?_
 rintro e w1 ⟨rfl,hr,hf⟩
 have q0:=(hf.cell hp0lt n0).trans hp0
 have hrg:=(aa HG).fr hf (fun k e=>by have h':k=b:=e;omega)
 unfold Rg at hrg
 have HR:=ae (And.intro hr hf)
 clear hr hf HT HG hp0
 go_wp2_with fail
 go_quiet ((first|(go_at_call 206;exact Calls.quiet_of_same ((kL x hlt _).mono (fun e w' h=>by rw[hq] at h;exact h)))|(go_at_call 198;exact Calls.quiet_of_same (ga _ _ _))))
 go_wp2_with fail
 go_ret
 exact⟨rfl,(aa HR).1.frame ((Fr.refl (fun _=>False) _).drewN _) (fun h=>h) (fun _ _ _ _ _ h=>h),(aa HR).2.drewN _⟩
end Go.Proofs.YtdcopmkgmbiikaaGreatDoor
