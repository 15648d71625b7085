import Derived.Test.YtdcopmkgmbiikaaGreatDoorJRed
set_option maxRecDepth 100000
set_option maxHeartbeats 400000
namespace Go.Proofs.YtdcopmkgmbiikaaGreatDoor
open Go.RowKit
theorem Rc.ey {w:World} {b:Nat} {nm:ByteArray} {sv:Value} {all:List Nat} {place part:Nat} (h:Rc w b nm sv all place part) (p':Nat) :
  Rc (w.setCell ⟨b,4,none⟩ (.int .i64 p')).drew b nm sv all place p'∧Fr (fun k=>k=b) w (w.setCell ⟨b,4,none⟩ (.int .i64 p')).drew:=by
 have hf:Fr (fun k=>k=b) w (w.setCell ⟨b,4,none⟩ (.int .i64 p')).drew:=(Fr.setCell (S:=fun k=>k=b) (Fr.refl _ _) (.inl rfl) _).drew
 have hc:∀ i,i≠4→(w.setCell ⟨b,4,none⟩ (.int .i64 p')).drew.cell? ⟨b,i,none⟩=w.cell? ⟨b,i,none⟩:=fun i hi=>by
  rw[World.cell?_drew,World.cell?_setCell_other _ _ _ _ (by intro h;injection h with _ h2 _;exact hi h2.symm)]
 refine⟨⟨(hc 0 (by decide)).trans h.c0,(hc 1 (by decide)).trans h.c1,(hc 2 (by decide)).trans h.c2,(hc 3 (by decide)).trans h.c3,?_,fun i=>?_,h.src.fr hf (fun g o m c e=>(h.ns g o m c e).1),h.ns,h.le⟩,hf⟩
 ·rw[World.cell?_drew];exact World.cell?_setCell_same _ _ _ h.c4
 ·rw[World.frozen?_drew,World.frozen?_setCell];exact h.fz i
theorem pk (b Fc:Nat) (caps:Array Value) (p0 p1 p2:Addr) (nm:ByteArray) (sv old:Value) (all:List Nat) (place part p':Nat) (x:Nat) (w:World) (h:Rc w b nm sv all place part)
  (hp0:w.cell? p0=some (.pointer (some ⟨b,0,none⟩))) (hp1:w.cell? p1=some (.func (.func Fc) #[] caps)) (hp2:w.cell? p2=some old) (f2:w.frozen? p2=false) (n0:p0.block≠b) (n1:p1.block≠b) (n2:p2.block≠b)
  (he:∀ W,(callFunc Fc caps).run Tryz.prog W = .ok (.enter Fc caps) W)
  (hread:∀ wk,Fr (fun k=>k=b) w wk→Rc wk b nm sv all place place→Calls Tryz.prog Fc caps wk fun e w'=>e = .returned (.int .u8 x)∧Rc w' b nm sv all p' place∧Fr (fun k=>k=b) wk w') :
  Calls Tryz.prog 227 #[.pointer (some p0),.pointer (some p1),.pointer (some p2)] w fun e w'=>e = .returned (.tuple #[])∧∃ w1,Rc w1 b nm sv all p' place∧Fr (fun k=>k=b) w w1∧w'=w1.setCell p2 (.int .u8 x):=by
 have HR:=ae hread
 have HP:=ae (h.ey place)
 have h3:=h.c3
 have h4:=h.c4
 have z4:=h.fz 4
 have q1:(w.setCell ⟨b,4,none⟩ (.int .i64 place)).drew.cell? p1=some (.func (.func Fc) #[] caps):=((aa HP).2.cell (ab hp1) n1).trans hp1
 have q0:(w.setCell ⟨b,4,none⟩ (.int .i64 place)).drew.cell? p0=some (.pointer (some ⟨b,0,none⟩)):=((aa HP).2.cell (ab hp0) n0).trans hp0
 have l2:=ab hp2
 have P2:=ae hp2
 have F2:=ae f2
 clear hread h hp1 hp2 f2
 simp only[World.cell?_drew] at q1 q0
 go_enter Tryz.func227,Tryz.ntmps227
 go_wp2_with fail
 go_region
 all_goals
  go_wp2_with fail
  refine(aa HR _ (aa HP).2 (aa HP).1).mono ?_
  rintro e w1 ⟨rfl,hr,hf⟩
  have hf':=(aa HP).2.trans hf (fun _ _ h=>h)
  have r2:=(hf'.cell l2 n2).trans (aa P2)
  have g2:=(hf'.frozen l2 n2).trans (aa F2)
  go_wp2_with fail
  go_end0
  exact⟨rfl,w1,hr,hf',rfl⟩
theorem mQ (b Fc:Nat) (caps:Array Value) (p0 p1 p2:Addr) (nm:ByteArray) (sv old:Value) (all:List Nat) (place part p':Nat) (x:Nat) (w:World) (h:Rc w b nm sv all place part)
  (hp0:w.cell? p0=some (.pointer (some ⟨b,0,none⟩))) (hp1:w.cell? p1=some (.func (.func Fc) #[] caps)) (hp2:w.cell? p2=some old) (f2:w.frozen? p2=false) (n0:p0.block≠b) (n1:p1.block≠b) (n2:p2.block≠b)
  (he:∀ W,(callFunc Fc caps).run Tryz.prog W = .ok (.enter Fc caps) W)
  (hread:∀ wk,Fr (fun k=>k=b) w wk→Rc wk b nm sv all place place→Calls Tryz.prog Fc caps wk fun e w'=>e = .returned (.int .u32 x)∧Rc w' b nm sv all p' place∧Fr (fun k=>k=b) wk w') :
  Calls Tryz.prog 228 #[.pointer (some p0),.pointer (some p1),.pointer (some p2)] w fun e w'=>e = .returned (.tuple #[])∧∃ w1,Rc w1 b nm sv all p' place∧Fr (fun k=>k=b) w w1∧w'=w1.setCell p2 (.int .u32 x):=by
 have HR:=ae hread
 have HP:=ae (h.ey place)
 have h3:=h.c3
 have h4:=h.c4
 have z4:=h.fz 4
 have q1:(w.setCell ⟨b,4,none⟩ (.int .i64 place)).drew.cell? p1=some (.func (.func Fc) #[] caps):=((aa HP).2.cell (ab hp1) n1).trans hp1
 have q0:(w.setCell ⟨b,4,none⟩ (.int .i64 place)).drew.cell? p0=some (.pointer (some ⟨b,0,none⟩)):=((aa HP).2.cell (ab hp0) n0).trans hp0
 have l2:=ab hp2
 have P2:=ae hp2
 have F2:=ae f2
 clear hread h hp1 hp2 f2
 simp only[World.cell?_drew] at q1 q0
 go_enter Tryz.func228,Tryz.ntmps228
 go_wp2_with fail
 go_region
 all_goals
  go_wp2_with fail
  refine(aa HR _ (aa HP).2 (aa HP).1).mono ?_
  rintro e w1 ⟨rfl,hr,hf⟩
  have hf':=(aa HP).2.trans hf (fun _ _ h=>h)
  have r2:=(hf'.cell l2 n2).trans (aa P2)
  have g2:=(hf'.frozen l2 n2).trans (aa F2)
  go_wp2_with fail
  go_end0
  exact⟨rfl,w1,hr,hf',rfl⟩
theorem mC (b Fc:Nat) (caps:Array Value) (p0 p1 p2:Addr) (nm:ByteArray) (sv old:Value) (all:List Nat) (place part p':Nat) (x:ByteArray) (w:World) (h:Rc w b nm sv all place part)
  (hp0:w.cell? p0=some (.pointer (some ⟨b,0,none⟩))) (hp1:w.cell? p1=some (.func (.func Fc) #[] caps)) (hp2:w.cell? p2=some old) (f2:w.frozen? p2=false) (n0:p0.block≠b) (n1:p1.block≠b) (n2:p2.block≠b)
  (he:∀ W,(callFunc Fc caps).run Tryz.prog W = .ok (.enter Fc caps) W)
  (hread:∀ wk,Fr (fun k=>k=b) w wk→Rc wk b nm sv all place place→Calls Tryz.prog Fc caps wk fun e w'=>e = .returned (.string x)∧Rc w' b nm sv all p' place∧Fr (fun k=>k=b) wk w') :
  Calls Tryz.prog 230 #[.pointer (some p0),.pointer (some p1),.pointer (some p2)] w fun e w'=>e = .returned (.tuple #[])∧∃ w1,Rc w1 b nm sv all p' place∧Fr (fun k=>k=b) w w1∧w'=w1.setCell p2 (.string x):=by
 have HR:=ae hread
 have HP:=ae (h.ey place)
 have h3:=h.c3
 have h4:=h.c4
 have z4:=h.fz 4
 have q1:(w.setCell ⟨b,4,none⟩ (.int .i64 place)).drew.cell? p1=some (.func (.func Fc) #[] caps):=((aa HP).2.cell (ab hp1) n1).trans hp1
 have q0:(w.setCell ⟨b,4,none⟩ (.int .i64 place)).drew.cell? p0=some (.pointer (some ⟨b,0,none⟩)):=((aa HP).2.cell (ab hp0) n0).trans hp0
 have l2:=ab hp2
 have P2:=ae hp2
 have F2:=ae f2
 clear hread h hp1 hp2 f2
 simp only[World.cell?_drew] at q1 q0
 go_enter Tryz.func230,Tryz.ntmps230
 go_wp2_with fail
 go_region
 all_goals
  go_wp2_with fail
  refine(aa HR _ (aa HP).2 (aa HP).1).mono ?_
  rintro e w1 ⟨rfl,hr,hf⟩
  have hf':=(aa HP).2.trans hf (fun _ _ h=>h)
  have r2:=(hf'.cell l2 n2).trans (aa P2)
  have g2:=(hf'.frozen l2 n2).trans (aa F2)
  go_wp2_with fail
  go_end0
  exact⟨rfl,w1,hr,hf',rfl⟩
theorem tw (b Fc:Nat) (caps:Array Value) (p0 p1 p2:Addr) (nm:ByteArray) (sv old:Value) (all:List Nat) (place part p':Nat) (x:Int) (w:World) (h:Rc w b nm sv all place part)
  (hp0:w.cell? p0=some (.pointer (some ⟨b,0,none⟩))) (hp1:w.cell? p1=some (.func (.func Fc) #[] caps)) (hp2:w.cell? p2=some old) (f2:w.frozen? p2=false) (n0:p0.block≠b) (n1:p1.block≠b) (n2:p2.block≠b)
  (he:∀ W,(callFunc Fc caps).run Tryz.prog W = .ok (.enter Fc caps) W)
  (hread:∀ wk,Fr (fun k=>k=b) w wk→Rc wk b nm sv all place place→Calls Tryz.prog Fc caps wk fun e w'=>e = .returned (.int .i64 x)∧Rc w' b nm sv all p' place∧Fr (fun k=>k=b) wk w') :
  Calls Tryz.prog 232 #[.pointer (some p0),.pointer (some p1),.pointer (some p2)] w fun e w'=>e = .returned (.tuple #[])∧∃ w1,Rc w1 b nm sv all p' place∧Fr (fun k=>k=b) w w1∧w'=w1.setCell p2 (.int .i64 x):=by
 have HR:=ae hread
 have HP:=ae (h.ey place)
 have h3:=h.c3
 have h4:=h.c4
 have z4:=h.fz 4
 have q1:(w.setCell ⟨b,4,none⟩ (.int .i64 place)).drew.cell? p1=some (.func (.func Fc) #[] caps):=((aa HP).2.cell (ab hp1) n1).trans hp1
 have q0:(w.setCell ⟨b,4,none⟩ (.int .i64 place)).drew.cell? p0=some (.pointer (some ⟨b,0,none⟩)):=((aa HP).2.cell (ab hp0) n0).trans hp0
 have l2:=ab hp2
 have P2:=ae hp2
 have F2:=ae f2
 clear hread h hp1 hp2 f2
 simp only[World.cell?_drew] at q1 q0
 go_enter Tryz.func232,Tryz.ntmps232
 go_wp2_with fail
 go_region
 all_goals
  go_wp2_with fail
  refine(aa HR _ (aa HP).2 (aa HP).1).mono ?_
  rintro e w1 ⟨rfl,hr,hf⟩
  have hf':=(aa HP).2.trans hf (fun _ _ h=>h)
  have r2:=(hf'.cell l2 n2).trans (aa P2)
  have g2:=(hf'.frozen l2 n2).trans (aa F2)
  go_wp2_with fail
  go_end0
  exact⟨rfl,w1,hr,hf',rfl⟩
theorem pe (b Fc:Nat) (caps:Array Value) (p0 p1 p2:Addr) (nm:ByteArray) (sv old:Value) (all:List Nat) (place part p' n:Nat) (l:List Nat) (w:World) (h:Rc w b nm sv all place part)
  (hp0:w.cell? p0=some (.pointer (some ⟨b,0,none⟩))) (hp1:w.cell? p1=some (.func (.func Fc) #[] caps)) (hp2:w.cell? p2=some old) (f2:w.frozen? p2=false) (n0:p0.block≠b) (n1:p1.block≠b) (n2:p2.block≠b)
  (he:∀ W,(callFunc Fc caps).run Tryz.prog W = .ok (.enter Fc caps) W)
  (hread:∀ wk,Fr (fun k=>k=b) w wk→Rc wk b nm sv all place place→Calls Tryz.prog Fc caps wk fun e w'=>∃ ao cap,e = .returned (.slice ao n cap)∧w'.ownsRow wk.heap.size 5 1 (.slice ao n cap) n (cellsOf l)∧Rc w' b nm sv all p' place∧Fr (fun k=>k=b) wk w') :
  Calls Tryz.prog 231 #[.pointer (some p0),.pointer (some p1),.pointer (some p2)] w fun e w'=>e = .returned (.tuple #[])∧∃ w1 ao cap,w1.ownsRow w.heap.size 5 1 (.slice ao n cap) n (cellsOf l)∧Rc w1 b nm sv all p' place∧Fr (fun k=>k=b) w w1∧w'=w1.setCell p2 (.slice ao n cap):=by
 have HR:=ae hread
 have HP:=ae (h.ey place)
 have h3:=h.c3
 have h4:=h.c4
 have z4:=h.fz 4
 have q1:(w.setCell ⟨b,4,none⟩ (.int .i64 place)).drew.cell? p1=some (.func (.func Fc) #[] caps):=((aa HP).2.cell (ab hp1) n1).trans hp1
 have q0:(w.setCell ⟨b,4,none⟩ (.int .i64 place)).drew.cell? p0=some (.pointer (some ⟨b,0,none⟩)):=((aa HP).2.cell (ab hp0) n0).trans hp0
 have l2:=ab hp2
 have P2:=ae hp2
 have F2:=ae f2
 clear hread h hp1 hp2 f2
 simp only[World.cell?_drew] at q1 q0
 go_enter Tryz.func231,Tryz.ntmps231
 go_wp2_with fail
 go_region
 all_goals
  go_wp2_with fail
  refine(aa HR _ (aa HP).2 (aa HP).1).mono ?_
  rintro e w1 ⟨ao,cap,rfl,hown,hr,hf⟩
  have HO:=ae hown
  clear hown
  have hf':=(aa HP).2.trans hf (fun _ _ h=>h)
  have r2:=(hf'.cell l2 n2).trans (aa P2)
  have g2:=(hf'.frozen l2 n2).trans (aa F2)
  go_wp2_with fail
  go_end0
  exact⟨rfl,w1,ao,cap,by simpa using aa HO,hr,hf',rfl⟩
structure dy where
 nm:ByteArray
 all:List Nat
 place:Nat
 part:Nat
 f:Option (ByteArray × Nat × Addr)
structure R (w:World) (b:Nat) (F:Nat→Prop) (s:dy):Prop where
 lt:∀ k,F k→k<w.heap.size
 lo:∀ k,F k→9≤k
 fb:F b
 st:(s.f=none∧∃ sv,Rc w b s.nm sv s.all s.place s.part∧∀ g o m c,sv = .slice (some ⟨g,o,none⟩) m c→F g) ∨
  (∃ what place ea fb,s.f=some (what,place,ea)∧w.cell? ⟨b,0,none⟩=some (.string s.nm)∧(∀ i,w.frozen? ⟨b,i,none⟩=false)∧w.cell? ⟨b,1,none⟩=some (.pointer (some ⟨fb,0,none⟩))∧F fb∧fb≠b∧w.heap[fb]?=some (aJ what place ea))
theorem R.frame {w w':World} {b:Nat} {F S:Nat→Prop} {s:dy} (h:R w b F s) (hf:Fr S w w') (hS:∀ k,F k→¬ S k):R w' b F s:=by
 refine⟨fun k hk=>Nat.lt_of_lt_of_le (h.lt k hk) hf.size,h.lo,h.fb,?_⟩
 have hlt:=h.lt b h.fb
 have hb:=hS b h.fb
 rcases h.st with ⟨h1,sv,hr,hF⟩|⟨what,place,ea,fb,h1,h2,h3,h4,h5,h6,h7⟩
 ·exact .inl ⟨h1,sv,hr.frame hf hb (fun g o m c e=>hS g (hF g o m c e)),hF⟩
 ·exact .inr ⟨what,place,ea,fb,h1,(hf.cell hlt hb).trans h2,fun i=>(hf.frozen hlt hb).trans (h3 i),(hf.cell hlt hb).trans h4,h5,h6,(hf.block fb (h.lt fb h5) (hS fb h5)).trans h7⟩
theorem R.rc {w:World} {b:Nat} {F:Nat→Prop} {s:dy} (h:R w b F s) (hn:s.f=none):∃ sv,Rc w b s.nm sv s.all s.place s.part∧∀ g o m c,sv = .slice (some ⟨g,o,none⟩) m c→F g:=by
 rcases h.st with ⟨_,x⟩|⟨what,place,ea,fb,h1,_⟩
 ·exact x
 ·rw[hn] at h1;cases h1
theorem R.on {w w':World} {b:Nat} {F:Nat→Prop} {s:dy} {sv:Value} {p' part':Nat} (h:R w b F s) (hn:s.f=none) (hF:∀ g o m c,sv = .slice (some ⟨g,o,none⟩) m c→F g) (hr:Rc w' b s.nm sv s.all p' part') (hf:Fr (fun k=>k=b) w w'):R w' b F { s with place:=p',part:=part' } :=
 ⟨fun k hk=>Nat.lt_of_lt_of_le (h.lt k hk) hf.size,h.lo,h.fb,.inl ⟨hn,sv,hr,hF⟩⟩
theorem dJ (w:World) (b:Nat) (o1 o2 o3:Obj):Fr (fun k=>k=b) w (((w.alloc o1).alloc o2).alloc o3):=(aI w o1 o2 o3).mono (fun _ _ h=>h.elim)
end Go.Proofs.YtdcopmkgmbiikaaGreatDoor
