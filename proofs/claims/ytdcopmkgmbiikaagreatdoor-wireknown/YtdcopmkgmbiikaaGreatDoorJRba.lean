import Derived.Test.YtdcopmkgmbiikaaGreatDoorJRdd
set_option maxRecDepth 100000
set_option maxHeartbeats 400000
namespace Go.Proofs.YtdcopmkgmbiikaaGreatDoor
open Go.RowKit
theorem aQ.before {w wk w':World} {b:Nat} {fa ea:Addr} {nm:ByteArray} {place:Nat} (h:aQ wk w' b fa nm place ea) (hf:Fr (fun k=>k=b) w wk):aQ w w' b fa nm place ea:=
 ⟨hf.trans h.fr (fun _ _ e=>e),h.c0,h.c1,h.fz,⟨h.yE.1,h.yE.2.1,Nat.le_trans hf.size h.yE.2.2⟩,h.c⟩
theorem nt (b Fc:Nat) (caps:Array Value) (p0 p1 p2:Addr) (nm:ByteArray) (sv:Value) (all:List Nat) (place part:Nat) (ea:Addr) (w:World) (h:Rc w b nm sv all place part)
  (hp0:w.cell? p0=some (.pointer (some ⟨b,0,none⟩))) (hp1:w.cell? p1=some (.func (.func Fc) #[] caps)) (n0:p0.block≠b) (n1:p1.block≠b)
  (he:∀ W,(callFunc Fc caps).run Tryz.prog W = .ok (.enter Fc caps) W)
  (hread:∀ wk,Fr (fun k=>k=b) w wk→Rc wk b nm sv all place place→Calls Tryz.prog Fc caps wk fun e w'=>∃ fa,e = .panicked [aG fa]∧aQ wk w' b fa nm place ea) :
  Calls Tryz.prog 227 #[.pointer (some p0),.pointer (some p1),.pointer (some p2)] w fun e w'=>∃ fa,e = .panicked [aG fa]∧aQ w w' b fa nm place ea:=by
 have HR:=ae hread
 have HP:=ae (h.ey place)
 have h3:=h.c3
 have h4:=h.c4
 have z4:=h.fz 4
 have q1:(w.setCell ⟨b,4,none⟩ (.int .i64 place)).drew.cell? p1=some (.func (.func Fc) #[] caps):=((aa HP).2.cell (ab hp1) n1).trans hp1
 have q0:(w.setCell ⟨b,4,none⟩ (.int .i64 place)).drew.cell? p0=some (.pointer (some ⟨b,0,none⟩)):=((aa HP).2.cell (ab hp0) n0).trans hp0
 clear hread h hp1
 simp only[World.cell?_drew] at q1 q0
 go_enter Tryz.func227,Tryz.ntmps227
 go_wp2_with fail
 go_region
 all_goals
  go_wp2_with fail
  refine(aa HR _ (aa HP).2 (aa HP).1).mono ?_
  rintro e w1 ⟨fa,rfl,hB⟩
  exact⟨rfl,fa,rfl,hB.before (aa HP).2⟩
theorem mF {wb:World} (b Fc:Nat) (caps:Array Value) (p0 p1 p2:Addr) (nm:ByteArray) (sv:Value) (all:List Nat) (place part:Nat) (ea:Addr) (h:Rc wb b nm sv all place part)
  (hp0:wb.cell? p0=some (.pointer (some ⟨b,0,none⟩))) (hp1:wb.cell? p1=some (.func (.func Fc) #[] caps)) (n0:p0.block≠b) (n1:p1.block≠b)
  (he:∀ W,(callFunc Fc caps).run Tryz.prog W = .ok (.enter Fc caps) W)
  (hread:∀ wk,Fr (fun k=>k=b) wb wk→Rc wk b nm sv all place place→Calls Tryz.prog Fc caps wk fun e w'=>∃ fa,e = .panicked [aG fa]∧aQ wk w' b fa nm place ea) :
  Calls Tryz.prog 182 #[.pointer (some ⟨b,0,none⟩),.func (.func 227) #[] #[.pointer (some p0),.pointer (some p1),.pointer (some p2)]] wb fun e w'=>e = .returned (.tuple #[])∧∃ w1 fa,aQ wb w1 b fa nm place ea∧w'=w1.setCell ⟨b,1,none⟩ (.pointer (some fa)):=by
 have hk:Fr (fun _=>False) wb (wb.alloc (.cells #[.pointer (some ⟨b,0,none⟩)] 271)):=(Fr.refl _ _).alloc _
 have hkb:Fr (fun k=>k=b) wb (wb.alloc (.cells #[.pointer (some ⟨b,0,none⟩)] 271)):=(Fr.refl _ _).alloc _
 have hlt:b<wb.heap.size:=ab h.c0
 refine(cM b 227 _ (fun w' fa=>aQ (wb.alloc (.cells #[.pointer (some ⟨b,0,none⟩)] 271)) w' b fa nm place ea) wb h.c1 (enters Tryz.func227 (by kernel_rfl) (by kernel_rfl) _) ?_ (fun w' fa hB=>⟨(hB.fr.cell (by simp) (by show ¬ wb.heap.size=b;omega)).trans (ua _ _ _),hB.c1,hB.fz 1⟩)).mono ?_
 ·exact nt b Fc caps p0 p1 p2 nm sv all place part ea _ (h.frame hk (fun h=>h) (fun _ _ _ _ _ h=>h)) ((hk.cell (ab hp0) (fun h=>h)).trans hp0) ((hk.cell (ab hp1) (fun h=>h)).trans hp1) n0 n1 he (fun wk hf hr=>hread wk (hkb.trans hf (fun _ _ h=>h)) hr)
 ·rintro e w' ⟨rfl,w1,fa,hB,rfl⟩
  exact⟨rfl,w1,fa,hB.before hkb,rfl⟩
theorem mj (b Fc:Nat) (caps:Array Value) (p0 p1 p2:Addr) (nm:ByteArray) (sv:Value) (all:List Nat) (place part:Nat) (ea:Addr) (w:World) (h:Rc w b nm sv all place part)
  (hp0:w.cell? p0=some (.pointer (some ⟨b,0,none⟩))) (hp1:w.cell? p1=some (.func (.func Fc) #[] caps)) (n0:p0.block≠b) (n1:p1.block≠b)
  (he:∀ W,(callFunc Fc caps).run Tryz.prog W = .ok (.enter Fc caps) W)
  (hread:∀ wk,Fr (fun k=>k=b) w wk→Rc wk b nm sv all place place→Calls Tryz.prog Fc caps wk fun e w'=>∃ fa,e = .panicked [aG fa]∧aQ wk w' b fa nm place ea) :
  Calls Tryz.prog 228 #[.pointer (some p0),.pointer (some p1),.pointer (some p2)] w fun e w'=>∃ fa,e = .panicked [aG fa]∧aQ w w' b fa nm place ea:=by
 have HR:=ae hread
 have HP:=ae (h.ey place)
 have h3:=h.c3
 have h4:=h.c4
 have z4:=h.fz 4
 have q1:(w.setCell ⟨b,4,none⟩ (.int .i64 place)).drew.cell? p1=some (.func (.func Fc) #[] caps):=((aa HP).2.cell (ab hp1) n1).trans hp1
 have q0:(w.setCell ⟨b,4,none⟩ (.int .i64 place)).drew.cell? p0=some (.pointer (some ⟨b,0,none⟩)):=((aa HP).2.cell (ab hp0) n0).trans hp0
 clear hread h hp1
 simp only[World.cell?_drew] at q1 q0
 go_enter Tryz.func228,Tryz.ntmps228
 go_wp2_with fail
 go_region
 all_goals
  go_wp2_with fail
  refine(aa HR _ (aa HP).2 (aa HP).1).mono ?_
  rintro e w1 ⟨fa,rfl,hB⟩
  exact⟨rfl,fa,rfl,hB.before (aa HP).2⟩
theorem lK {wb:World} (b Fc:Nat) (caps:Array Value) (p0 p1 p2:Addr) (nm:ByteArray) (sv:Value) (all:List Nat) (place part:Nat) (ea:Addr) (h:Rc wb b nm sv all place part)
  (hp0:wb.cell? p0=some (.pointer (some ⟨b,0,none⟩))) (hp1:wb.cell? p1=some (.func (.func Fc) #[] caps)) (n0:p0.block≠b) (n1:p1.block≠b)
  (he:∀ W,(callFunc Fc caps).run Tryz.prog W = .ok (.enter Fc caps) W)
  (hread:∀ wk,Fr (fun k=>k=b) wb wk→Rc wk b nm sv all place place→Calls Tryz.prog Fc caps wk fun e w'=>∃ fa,e = .panicked [aG fa]∧aQ wk w' b fa nm place ea) :
  Calls Tryz.prog 182 #[.pointer (some ⟨b,0,none⟩),.func (.func 228) #[] #[.pointer (some p0),.pointer (some p1),.pointer (some p2)]] wb fun e w'=>e = .returned (.tuple #[])∧∃ w1 fa,aQ wb w1 b fa nm place ea∧w'=w1.setCell ⟨b,1,none⟩ (.pointer (some fa)):=by
 have hk:Fr (fun _=>False) wb (wb.alloc (.cells #[.pointer (some ⟨b,0,none⟩)] 271)):=(Fr.refl _ _).alloc _
 have hkb:Fr (fun k=>k=b) wb (wb.alloc (.cells #[.pointer (some ⟨b,0,none⟩)] 271)):=(Fr.refl _ _).alloc _
 have hlt:b<wb.heap.size:=ab h.c0
 refine(cM b 228 _ (fun w' fa=>aQ (wb.alloc (.cells #[.pointer (some ⟨b,0,none⟩)] 271)) w' b fa nm place ea) wb h.c1 (enters Tryz.func228 (by kernel_rfl) (by kernel_rfl) _) ?_ (fun w' fa hB=>⟨(hB.fr.cell (by simp) (by show ¬ wb.heap.size=b;omega)).trans (ua _ _ _),hB.c1,hB.fz 1⟩)).mono ?_
 ·exact mj b Fc caps p0 p1 p2 nm sv all place part ea _ (h.frame hk (fun h=>h) (fun _ _ _ _ _ h=>h)) ((hk.cell (ab hp0) (fun h=>h)).trans hp0) ((hk.cell (ab hp1) (fun h=>h)).trans hp1) n0 n1 he (fun wk hf hr=>hread wk (hkb.trans hf (fun _ _ h=>h)) hr)
 ·rintro e w' ⟨rfl,w1,fa,hB,rfl⟩
  exact⟨rfl,w1,fa,hB.before hkb,rfl⟩
theorem lM (b Fc:Nat) (caps:Array Value) (p0 p1 p2:Addr) (nm:ByteArray) (sv:Value) (all:List Nat) (place part:Nat) (ea:Addr) (w:World) (h:Rc w b nm sv all place part)
  (hp0:w.cell? p0=some (.pointer (some ⟨b,0,none⟩))) (hp1:w.cell? p1=some (.func (.func Fc) #[] caps)) (n0:p0.block≠b) (n1:p1.block≠b)
  (he:∀ W,(callFunc Fc caps).run Tryz.prog W = .ok (.enter Fc caps) W)
  (hread:∀ wk,Fr (fun k=>k=b) w wk→Rc wk b nm sv all place place→Calls Tryz.prog Fc caps wk fun e w'=>∃ fa,e = .panicked [aG fa]∧aQ wk w' b fa nm place ea) :
  Calls Tryz.prog 230 #[.pointer (some p0),.pointer (some p1),.pointer (some p2)] w fun e w'=>∃ fa,e = .panicked [aG fa]∧aQ w w' b fa nm place ea:=by
 have HR:=ae hread
 have HP:=ae (h.ey place)
 have h3:=h.c3
 have h4:=h.c4
 have z4:=h.fz 4
 have q1:(w.setCell ⟨b,4,none⟩ (.int .i64 place)).drew.cell? p1=some (.func (.func Fc) #[] caps):=((aa HP).2.cell (ab hp1) n1).trans hp1
 have q0:(w.setCell ⟨b,4,none⟩ (.int .i64 place)).drew.cell? p0=some (.pointer (some ⟨b,0,none⟩)):=((aa HP).2.cell (ab hp0) n0).trans hp0
 clear hread h hp1
 simp only[World.cell?_drew] at q1 q0
 go_enter Tryz.func230,Tryz.ntmps230
 go_wp2_with fail
 go_region
 all_goals
  go_wp2_with fail
  refine(aa HR _ (aa HP).2 (aa HP).1).mono ?_
  rintro e w1 ⟨fa,rfl,hB⟩
  exact⟨rfl,fa,rfl,hB.before (aa HP).2⟩
theorem lz {wb:World} (b Fc:Nat) (caps:Array Value) (p0 p1 p2:Addr) (nm:ByteArray) (sv:Value) (all:List Nat) (place part:Nat) (ea:Addr) (h:Rc wb b nm sv all place part)
  (hp0:wb.cell? p0=some (.pointer (some ⟨b,0,none⟩))) (hp1:wb.cell? p1=some (.func (.func Fc) #[] caps)) (n0:p0.block≠b) (n1:p1.block≠b)
  (he:∀ W,(callFunc Fc caps).run Tryz.prog W = .ok (.enter Fc caps) W)
  (hread:∀ wk,Fr (fun k=>k=b) wb wk→Rc wk b nm sv all place place→Calls Tryz.prog Fc caps wk fun e w'=>∃ fa,e = .panicked [aG fa]∧aQ wk w' b fa nm place ea) :
  Calls Tryz.prog 182 #[.pointer (some ⟨b,0,none⟩),.func (.func 230) #[] #[.pointer (some p0),.pointer (some p1),.pointer (some p2)]] wb fun e w'=>e = .returned (.tuple #[])∧∃ w1 fa,aQ wb w1 b fa nm place ea∧w'=w1.setCell ⟨b,1,none⟩ (.pointer (some fa)):=by
 have hk:Fr (fun _=>False) wb (wb.alloc (.cells #[.pointer (some ⟨b,0,none⟩)] 271)):=(Fr.refl _ _).alloc _
 have hkb:Fr (fun k=>k=b) wb (wb.alloc (.cells #[.pointer (some ⟨b,0,none⟩)] 271)):=(Fr.refl _ _).alloc _
 have hlt:b<wb.heap.size:=ab h.c0
 refine(cM b 230 _ (fun w' fa=>aQ (wb.alloc (.cells #[.pointer (some ⟨b,0,none⟩)] 271)) w' b fa nm place ea) wb h.c1 (enters Tryz.func230 (by kernel_rfl) (by kernel_rfl) _) ?_ (fun w' fa hB=>⟨(hB.fr.cell (by simp) (by show ¬ wb.heap.size=b;omega)).trans (ua _ _ _),hB.c1,hB.fz 1⟩)).mono ?_
 ·exact lM b Fc caps p0 p1 p2 nm sv all place part ea _ (h.frame hk (fun h=>h) (fun _ _ _ _ _ h=>h)) ((hk.cell (ab hp0) (fun h=>h)).trans hp0) ((hk.cell (ab hp1) (fun h=>h)).trans hp1) n0 n1 he (fun wk hf hr=>hread wk (hkb.trans hf (fun _ _ h=>h)) hr)
 ·rintro e w' ⟨rfl,w1,fa,hB,rfl⟩
  exact⟨rfl,w1,fa,hB.before hkb,rfl⟩
theorem ql (b Fc:Nat) (caps:Array Value) (p0 p1 p2:Addr) (nm:ByteArray) (sv:Value) (all:List Nat) (place part:Nat) (ea:Addr) (w:World) (h:Rc w b nm sv all place part)
  (hp0:w.cell? p0=some (.pointer (some ⟨b,0,none⟩))) (hp1:w.cell? p1=some (.func (.func Fc) #[] caps)) (n0:p0.block≠b) (n1:p1.block≠b)
  (he:∀ W,(callFunc Fc caps).run Tryz.prog W = .ok (.enter Fc caps) W)
  (hread:∀ wk,Fr (fun k=>k=b) w wk→Rc wk b nm sv all place place→Calls Tryz.prog Fc caps wk fun e w'=>∃ fa,e = .panicked [aG fa]∧aQ wk w' b fa nm place ea) :
  Calls Tryz.prog 232 #[.pointer (some p0),.pointer (some p1),.pointer (some p2)] w fun e w'=>∃ fa,e = .panicked [aG fa]∧aQ w w' b fa nm place ea:=by
 have HR:=ae hread
 have HP:=ae (h.ey place)
 have h3:=h.c3
 have h4:=h.c4
 have z4:=h.fz 4
 have q1:(w.setCell ⟨b,4,none⟩ (.int .i64 place)).drew.cell? p1=some (.func (.func Fc) #[] caps):=((aa HP).2.cell (ab hp1) n1).trans hp1
 have q0:(w.setCell ⟨b,4,none⟩ (.int .i64 place)).drew.cell? p0=some (.pointer (some ⟨b,0,none⟩)):=((aa HP).2.cell (ab hp0) n0).trans hp0
 clear hread h hp1
 simp only[World.cell?_drew] at q1 q0
 go_enter Tryz.func232,Tryz.ntmps232
 go_wp2_with fail
 go_region
 all_goals
  go_wp2_with fail
  refine(aa HR _ (aa HP).2 (aa HP).1).mono ?_
  rintro e w1 ⟨fa,rfl,hB⟩
  exact⟨rfl,fa,rfl,hB.before (aa HP).2⟩
theorem qZ {wb:World} (b Fc:Nat) (caps:Array Value) (p0 p1 p2:Addr) (nm:ByteArray) (sv:Value) (all:List Nat) (place part:Nat) (ea:Addr) (h:Rc wb b nm sv all place part)
  (hp0:wb.cell? p0=some (.pointer (some ⟨b,0,none⟩))) (hp1:wb.cell? p1=some (.func (.func Fc) #[] caps)) (n0:p0.block≠b) (n1:p1.block≠b)
  (he:∀ W,(callFunc Fc caps).run Tryz.prog W = .ok (.enter Fc caps) W)
  (hread:∀ wk,Fr (fun k=>k=b) wb wk→Rc wk b nm sv all place place→Calls Tryz.prog Fc caps wk fun e w'=>∃ fa,e = .panicked [aG fa]∧aQ wk w' b fa nm place ea) :
  Calls Tryz.prog 182 #[.pointer (some ⟨b,0,none⟩),.func (.func 232) #[] #[.pointer (some p0),.pointer (some p1),.pointer (some p2)]] wb fun e w'=>e = .returned (.tuple #[])∧∃ w1 fa,aQ wb w1 b fa nm place ea∧w'=w1.setCell ⟨b,1,none⟩ (.pointer (some fa)):=by
 have hk:Fr (fun _=>False) wb (wb.alloc (.cells #[.pointer (some ⟨b,0,none⟩)] 271)):=(Fr.refl _ _).alloc _
 have hkb:Fr (fun k=>k=b) wb (wb.alloc (.cells #[.pointer (some ⟨b,0,none⟩)] 271)):=(Fr.refl _ _).alloc _
 have hlt:b<wb.heap.size:=ab h.c0
 refine(cM b 232 _ (fun w' fa=>aQ (wb.alloc (.cells #[.pointer (some ⟨b,0,none⟩)] 271)) w' b fa nm place ea) wb h.c1 (enters Tryz.func232 (by kernel_rfl) (by kernel_rfl) _) ?_ (fun w' fa hB=>⟨(hB.fr.cell (by simp) (by show ¬ wb.heap.size=b;omega)).trans (ua _ _ _),hB.c1,hB.fz 1⟩)).mono ?_
 ·exact ql b Fc caps p0 p1 p2 nm sv all place part ea _ (h.frame hk (fun h=>h) (fun _ _ _ _ _ h=>h)) ((hk.cell (ab hp0) (fun h=>h)).trans hp0) ((hk.cell (ab hp1) (fun h=>h)).trans hp1) n0 n1 he (fun wk hf hr=>hread wk (hkb.trans hf (fun _ _ h=>h)) hr)
 ·rintro e w' ⟨rfl,w1,fa,hB,rfl⟩
  exact⟨rfl,w1,fa,hB.before hkb,rfl⟩
theorem m8 (b Fc:Nat) (caps:Array Value) (p0 p1 p2:Addr) (nm:ByteArray) (sv:Value) (all:List Nat) (place part:Nat) (ea:Addr) (w:World) (h:Rc w b nm sv all place part)
  (hp0:w.cell? p0=some (.pointer (some ⟨b,0,none⟩))) (hp1:w.cell? p1=some (.func (.func Fc) #[] caps)) (n0:p0.block≠b) (n1:p1.block≠b)
  (he:∀ W,(callFunc Fc caps).run Tryz.prog W = .ok (.enter Fc caps) W)
  (hread:∀ wk,Fr (fun k=>k=b) w wk→Rc wk b nm sv all place place→Calls Tryz.prog Fc caps wk fun e w'=>∃ fa,e = .panicked [aG fa]∧aQ wk w' b fa nm place ea) :
  Calls Tryz.prog 231 #[.pointer (some p0),.pointer (some p1),.pointer (some p2)] w fun e w'=>∃ fa,e = .panicked [aG fa]∧aQ w w' b fa nm place ea:=by
 have HR:=ae hread
 have HP:=ae (h.ey place)
 have h3:=h.c3
 have h4:=h.c4
 have z4:=h.fz 4
 have q1:(w.setCell ⟨b,4,none⟩ (.int .i64 place)).drew.cell? p1=some (.func (.func Fc) #[] caps):=((aa HP).2.cell (ab hp1) n1).trans hp1
 have q0:(w.setCell ⟨b,4,none⟩ (.int .i64 place)).drew.cell? p0=some (.pointer (some ⟨b,0,none⟩)):=((aa HP).2.cell (ab hp0) n0).trans hp0
 clear hread h hp1
 simp only[World.cell?_drew] at q1 q0
 go_enter Tryz.func231,Tryz.ntmps231
 go_wp2_with fail
 go_region
 all_goals
  go_wp2_with fail
  refine(aa HR _ (aa HP).2 (aa HP).1).mono ?_
  rintro e w1 ⟨fa,rfl,hB⟩
  exact⟨rfl,fa,rfl,hB.before (aa HP).2⟩
theorem mI {wb:World} (b Fc:Nat) (caps:Array Value) (p0 p1 p2:Addr) (nm:ByteArray) (sv:Value) (all:List Nat) (place part:Nat) (ea:Addr) (h:Rc wb b nm sv all place part)
  (hp0:wb.cell? p0=some (.pointer (some ⟨b,0,none⟩))) (hp1:wb.cell? p1=some (.func (.func Fc) #[] caps)) (n0:p0.block≠b) (n1:p1.block≠b)
  (he:∀ W,(callFunc Fc caps).run Tryz.prog W = .ok (.enter Fc caps) W)
  (hread:∀ wk,Fr (fun k=>k=b) wb wk→Rc wk b nm sv all place place→Calls Tryz.prog Fc caps wk fun e w'=>∃ fa,e = .panicked [aG fa]∧aQ wk w' b fa nm place ea) :
  Calls Tryz.prog 182 #[.pointer (some ⟨b,0,none⟩),.func (.func 231) #[] #[.pointer (some p0),.pointer (some p1),.pointer (some p2)]] wb fun e w'=>e = .returned (.tuple #[])∧∃ w1 fa,aQ wb w1 b fa nm place ea∧w'=w1.setCell ⟨b,1,none⟩ (.pointer (some fa)):=by
 have hk:Fr (fun _=>False) wb (wb.alloc (.cells #[.pointer (some ⟨b,0,none⟩)] 271)):=(Fr.refl _ _).alloc _
 have hkb:Fr (fun k=>k=b) wb (wb.alloc (.cells #[.pointer (some ⟨b,0,none⟩)] 271)):=(Fr.refl _ _).alloc _
 have hlt:b<wb.heap.size:=ab h.c0
 refine(cM b 231 _ (fun w' fa=>aQ (wb.alloc (.cells #[.pointer (some ⟨b,0,none⟩)] 271)) w' b fa nm place ea) wb h.c1 (enters Tryz.func231 (by kernel_rfl) (by kernel_rfl) _) ?_ (fun w' fa hB=>⟨(hB.fr.cell (by simp) (by show ¬ wb.heap.size=b;omega)).trans (ua _ _ _),hB.c1,hB.fz 1⟩)).mono ?_
 ·exact m8 b Fc caps p0 p1 p2 nm sv all place part ea _ (h.frame hk (fun h=>h) (fun _ _ _ _ _ h=>h)) ((hk.cell (ab hp0) (fun h=>h)).trans hp0) ((hk.cell (ab hp1) (fun h=>h)).trans hp1) n0 n1 he (fun wk hf hr=>hread wk (hkb.trans hf (fun _ _ h=>h)) hr)
 ·rintro e w' ⟨rfl,w1,fa,hB,rfl⟩
  exact⟨rfl,w1,fa,hB.before hkb,rfl⟩
theorem kr (b Fc:Nat) (caps:Array Value) (p0 p1 p2:Addr) (nm:ByteArray) (sv:Value) (all:List Nat) (place part:Nat) (ea:Addr) (w:World) (h:Rc w b nm sv all place part)
  (hp0:w.cell? p0=some (.pointer (some ⟨b,0,none⟩))) (hp1:w.cell? p1=some (.func (.func Fc) #[] caps)) (n0:p0.block≠b) (n1:p1.block≠b)
  (he:∀ W,(callFunc Fc caps).run Tryz.prog W = .ok (.enter Fc caps) W)
  (hread:∀ wk,Fr (fun k=>k=b) w wk→Rc wk b nm sv all place place→Calls Tryz.prog Fc caps wk fun e w'=>∃ fa,e = .panicked [aG fa]∧aQ wk w' b fa nm place ea) :
  Calls Tryz.prog 229 #[.pointer (some p0),.pointer (some p1),.pointer (some p2)] w fun e w'=>∃ fa,e = .panicked [aG fa]∧aQ w w' b fa nm place ea:=by
 have HR:=ae hread
 have HP:=ae (h.ey place)
 have h3:=h.c3
 have h4:=h.c4
 have z4:=h.fz 4
 have q1:(w.setCell ⟨b,4,none⟩ (.int .i64 place)).drew.cell? p1=some (.func (.func Fc) #[] caps):=((aa HP).2.cell (ab hp1) n1).trans hp1
 have q0:(w.setCell ⟨b,4,none⟩ (.int .i64 place)).drew.cell? p0=some (.pointer (some ⟨b,0,none⟩)):=((aa HP).2.cell (ab hp0) n0).trans hp0
 clear hread h hp1
 simp only[World.cell?_drew] at q1 q0
 go_enter Tryz.func229,Tryz.ntmps229
 go_wp2_with fail
 go_region
 all_goals
  go_wp2_with fail
  refine(aa HR _ (aa HP).2 (aa HP).1).mono ?_
  rintro e w1 ⟨fa,rfl,hB⟩
  exact⟨rfl,fa,rfl,hB.before (aa HP).2⟩
theorem kK {wb:World} (b Fc:Nat) (caps:Array Value) (p0 p1 p2:Addr) (nm:ByteArray) (sv:Value) (all:List Nat) (place part:Nat) (ea:Addr) (h:Rc wb b nm sv all place part)
  (hp0:wb.cell? p0=some (.pointer (some ⟨b,0,none⟩))) (hp1:wb.cell? p1=some (.func (.func Fc) #[] caps)) (n0:p0.block≠b) (n1:p1.block≠b)
  (he:∀ W,(callFunc Fc caps).run Tryz.prog W = .ok (.enter Fc caps) W)
  (hread:∀ wk,Fr (fun k=>k=b) wb wk→Rc wk b nm sv all place place→Calls Tryz.prog Fc caps wk fun e w'=>∃ fa,e = .panicked [aG fa]∧aQ wk w' b fa nm place ea) :
  Calls Tryz.prog 182 #[.pointer (some ⟨b,0,none⟩),.func (.func 229) #[] #[.pointer (some p0),.pointer (some p1),.pointer (some p2)]] wb fun e w'=>e = .returned (.tuple #[])∧∃ w1 fa,aQ wb w1 b fa nm place ea∧w'=w1.setCell ⟨b,1,none⟩ (.pointer (some fa)):=by
 have hk:Fr (fun _=>False) wb (wb.alloc (.cells #[.pointer (some ⟨b,0,none⟩)] 271)):=(Fr.refl _ _).alloc _
 have hkb:Fr (fun k=>k=b) wb (wb.alloc (.cells #[.pointer (some ⟨b,0,none⟩)] 271)):=(Fr.refl _ _).alloc _
 have hlt:b<wb.heap.size:=ab h.c0
 refine(cM b 229 _ (fun w' fa=>aQ (wb.alloc (.cells #[.pointer (some ⟨b,0,none⟩)] 271)) w' b fa nm place ea) wb h.c1 (enters Tryz.func229 (by kernel_rfl) (by kernel_rfl) _) ?_ (fun w' fa hB=>⟨(hB.fr.cell (by simp) (by show ¬ wb.heap.size=b;omega)).trans (ua _ _ _),hB.c1,hB.fz 1⟩)).mono ?_
 ·exact kr b Fc caps p0 p1 p2 nm sv all place part ea _ (h.frame hk (fun h=>h) (fun _ _ _ _ _ h=>h)) ((hk.cell (ab hp0) (fun h=>h)).trans hp0) ((hk.cell (ab hp1) (fun h=>h)).trans hp1) n0 n1 he (fun wk hf hr=>hread wk (hkb.trans hf (fun _ _ h=>h)) hr)
 ·rintro e w' ⟨rfl,w1,fa,hB,rfl⟩
  exact⟨rfl,w1,fa,hB.before hkb,rfl⟩
theorem gY {w w1:World} {b:Nat} {F:Nat→Prop} {s:dy} {fa ea:Addr} {V:Value} {o1 o2 o3:Obj} (h:R w b F s) (hB:aQ (((w.alloc o1).alloc o2).alloc o3) w1 b fa s.nm s.place ea) :
  ∃ F',R ((w1.setCell ⟨b,1,none⟩ (.pointer (some fa))).setCell ⟨w.heap.size+1+1,0,none⟩ V) b F' { s with f:=some (s.nm,s.place,ea) } ∧ Ch w ((w1.setCell ⟨b,1,none⟩ (.pointer (some fa))).setCell ⟨w.heap.size+1+1,0,none⟩ V) F F':=by
 have hlt:=h.lt b h.fb
 obtain⟨fb,fo,fs⟩:=fa
 obtain⟨rfl,rfl,hge⟩:=hB.yE
 have hge':w.heap.size+3≤fb:=by simpa using hge
 have hfl:fb<w1.heap.size:=by
  rcases Nat.lt_or_ge fb w1.heap.size with hx|hx
  ·exact hx
  ·have:=hB.c;rw[Array.getElem?_eq_none hx] at this;cases this
 have hfr:Fr (fun k=>k=b) w w1:=(dJ w b _ _ _).trans hB.fr (fun _ _ e=>e)
 have o2:∀ i,(w1.setCell ⟨b,1,none⟩ (.pointer (some ⟨fb,0,none⟩))).cell? ⟨b,i,none⟩=((w1.setCell ⟨b,1,none⟩ (.pointer (some ⟨fb,0,none⟩))).setCell ⟨w.heap.size+1+1,0,none⟩ V).cell? ⟨b,i,none⟩:=fun i=>by
  exact(World.cell?_setCell_other _ _ _ _ (by intro e;injection e with e1 _ _;omega)).symm
 refine⟨fun k=>F k∨k=fb,⟨?_,?_,.inl h.fb,.inr ⟨s.nm,s.place,ea,fb,rfl,?_,?_,?_,.inr rfl,by omega,?_⟩⟩,?_,?_⟩
 ·intro k hk
  rw[World.size_setCell,World.size_setCell]
  rcases hk with hk|rfl
  ·exact Nat.lt_of_lt_of_le (h.lt k hk) hfr.size
  ·exact hfl
 ·intro k hk
  rcases hk with hk|rfl
  ·exact h.lo k hk
  ·have h2:=h.lo b h.fb
   omega
 ·rw[← o2,World.cell?_setCell_other _ _ _ _ (by intro h;injection h with _ h2 _;cases h2)];exact hB.c0
 ·intro i;rw[World.frozen?_setCell,World.frozen?_setCell];exact hB.fz i
 ·rw[← o2];exact World.cell?_setCell_same _ _ _ hB.c1
 ·rw[Below.heap_setCell _ _ _ _ (by show fb≠w.heap.size+1+1;omega),Below.heap_setCell _ _ _ _ (by show fb≠b;omega)];exact hB.c
 ·exact((hfr.mono (T:=F) (fun _ _ e=>by rw[e];exact h.fb)).setCell (.inl h.fb) _).setCell (.inr (by show w.heap.size≤w.heap.size+1+1;omega)) _
 ·intro k hk
  rcases hk with hk|rfl
  ·exact .inl hk
  ·exact .inr (by omega)
theorem gT (w:World) (o1 o2 o3 o4:Obj) (V:Value):Fr (fun _=>False) w (((((w.alloc o1).alloc o2).alloc o3).alloc o4).setCell ⟨w.heap.size+1+1,0,none⟩ V):=
 ((aI w _ _ _).alloc _).setCell (.inr (by show w.heap.size≤w.heap.size+1+1;omega)) _
theorem og (b Fc:Nat) (caps:Array Value) (F:Nat→Prop) (s:dy) (ea:Addr) (w:World) (h:R w b F s) (hn:s.f=none) (he:∀ W,(callFunc Fc caps).run Tryz.prog W = .ok (.enter Fc caps) W)
  (hread:∀ wk sv,Fr (fun k=>k=b) w wk→Rc wk b s.nm sv s.all s.place s.place→Calls Tryz.prog Fc caps wk fun e w'=>∃ fa,e = .panicked [aG fa]∧aQ wk w' b fa s.nm s.place ea) :
  Calls Tryz.prog 211 #[.pointer (some ⟨b,0,none⟩),.func (.func Fc) #[] caps] w fun e w'=>e = .returned (.int .u8 0)∧∃ F',R w' b F' { s with f:=some (s.nm,s.place,ea) } ∧ Ch w w' F F':=by
 obtain⟨sv,hr,hF⟩:=h.rc hn
 have hlt:=h.lt b h.fb
 have hmf:=mf
 have H:=ae (And.intro h (And.intro hn (And.intro hr hF)))
 have HR:=ae hread
 clear h hn hr hF hread
 go_enter Tryz.func211,Tryz.ntmps211
 go_wp2_with fail
 refine(mF b Fc caps ⟨w.heap.size,0,none⟩ ⟨w.heap.size+1,0,none⟩ ⟨w.heap.size+1+1,0,none⟩ s.nm sv s.all s.place s.part ea ((aa H).2.2.1.frame (aI w _ _ _) (fun h=>h) (fun _ _ _ _ _ h=>h)) (lf _ _ _ _ _) (mm _ _ _ _ _) (by show w.heap.size≠b;omega) (by show w.heap.size+1≠b;omega) he (fun wk hf hr=>aa HR wk sv ((dJ w b _ _ _).trans hf (fun _ _ h=>h)) hr)).mono ?_
 rintro e w' ⟨rfl,w1,fa,hB,rfl⟩
 have hc2:=(hB.fr.cell (p:=⟨w.heap.size+1+1,0,none⟩) (by simp) (by show ¬ w.heap.size+1+1=b;omega)).trans (jW _ _ _ _ _)
 have hz2:=(hB.fr.frozen (p:=⟨w.heap.size+1+1,0,none⟩) (by simp) (by show ¬ w.heap.size+1+1=b;omega)).trans (pH _ _ _ _ _)
 have HB:=ae hB
 clear hB
 go_wp2_with fail
 obtain⟨F',hR,hC⟩:=gY (V:=.int .u8 0) (aa H).1 (aa HB)
 exact bodyPost_ret (v:=.int .u8 0) (by simp[results,Tryz.results211,go_sem,hc2]) rfl ⟨rfl,F',hR,hC⟩
theorem lh (b Fc:Nat) (caps:Array Value) (F:Nat→Prop) (s:dy) (w:World) (h:R w b F s) (hn:s.f≠none) :
  Calls Tryz.prog 211 #[.pointer (some ⟨b,0,none⟩),.func (.func Fc) #[] caps] w fun e w'=>e = .returned (.int .u8 0)∧∃ F',R w' b F' s∧Ch w w' F F':=by
 have hlt:=h.lt b h.fb
 have hmf:=mf
 have h1:∃ fa,w.cell? ⟨b,1,none⟩=some (.pointer (some fa)):=by
  rcases h.st with ⟨h1,_⟩|⟨what,place,ea,fb,_,_,_,h4,_⟩
  ·exact absurd h1 hn
  ·exact⟨_,h4⟩
 obtain⟨fa,h1⟩:=h1
 have H:=ae h
 clear h hn
 go_enter Tryz.func211,Tryz.ntmps211
 go_wp2_with fail
 refine(bX b fa _ _ (((aI w _ _ _).cell hlt (fun h=>h)).trans h1)).mono ?_
 rintro e w' ⟨rfl,rfl⟩
 go_wp2_with fail
 refine bodyPost_ret (v:=.int .u8 0) (by simp[results,Tryz.results211,go_sem]) rfl ⟨rfl,F,R.frame (S:=fun _=>False) (aa H) ?_ (fun _ _ h=>h),Fr.mono (S:=fun _=>False) ?_ (fun _ _ h=>h.elim),fun _ hk=>.inl hk⟩
 all_goals first|exact gT _ _ _ _ _ _|exact(aI w _ _ _).alloc _
theorem mM (b Fc:Nat) (caps:Array Value) (F:Nat→Prop) (s:dy) (ea:Addr) (w:World) (h:R w b F s) (hn:s.f=none) (he:∀ W,(callFunc Fc caps).run Tryz.prog W = .ok (.enter Fc caps) W)
  (hread:∀ wk sv,Fr (fun k=>k=b) w wk→Rc wk b s.nm sv s.all s.place s.place→Calls Tryz.prog Fc caps wk fun e w'=>∃ fa,e = .panicked [aG fa]∧aQ wk w' b fa s.nm s.place ea) :
  Calls Tryz.prog 214 #[.pointer (some ⟨b,0,none⟩),.func (.func Fc) #[] caps] w fun e w'=>e = .returned (.int .u32 0)∧∃ F',R w' b F' { s with f:=some (s.nm,s.place,ea) } ∧ Ch w w' F F':=by
 obtain⟨sv,hr,hF⟩:=h.rc hn
 have hlt:=h.lt b h.fb
 have hmf:=mf
 have H:=ae (And.intro h (And.intro hn (And.intro hr hF)))
 have HR:=ae hread
 clear h hn hr hF hread
 go_enter Tryz.func214,Tryz.ntmps214
 go_wp2_with fail
 refine(lK b Fc caps ⟨w.heap.size,0,none⟩ ⟨w.heap.size+1,0,none⟩ ⟨w.heap.size+1+1,0,none⟩ s.nm sv s.all s.place s.part ea ((aa H).2.2.1.frame (aI w _ _ _) (fun h=>h) (fun _ _ _ _ _ h=>h)) (lf _ _ _ _ _) (mm _ _ _ _ _) (by show w.heap.size≠b;omega) (by show w.heap.size+1≠b;omega) he (fun wk hf hr=>aa HR wk sv ((dJ w b _ _ _).trans hf (fun _ _ h=>h)) hr)).mono ?_
 rintro e w' ⟨rfl,w1,fa,hB,rfl⟩
 have hc2:=(hB.fr.cell (p:=⟨w.heap.size+1+1,0,none⟩) (by simp) (by show ¬ w.heap.size+1+1=b;omega)).trans (jW _ _ _ _ _)
 have hz2:=(hB.fr.frozen (p:=⟨w.heap.size+1+1,0,none⟩) (by simp) (by show ¬ w.heap.size+1+1=b;omega)).trans (pH _ _ _ _ _)
 have HB:=ae hB
 clear hB
 go_wp2_with fail
 obtain⟨F',hR,hC⟩:=gY (V:=.int .u32 0) (aa H).1 (aa HB)
 exact bodyPost_ret (v:=.int .u32 0) (by simp[results,Tryz.results214,go_sem,hc2]) rfl ⟨rfl,F',hR,hC⟩
theorem kH (b Fc:Nat) (caps:Array Value) (F:Nat→Prop) (s:dy) (w:World) (h:R w b F s) (hn:s.f≠none) :
  Calls Tryz.prog 214 #[.pointer (some ⟨b,0,none⟩),.func (.func Fc) #[] caps] w fun e w'=>e = .returned (.int .u32 0)∧∃ F',R w' b F' s∧Ch w w' F F':=by
 have hlt:=h.lt b h.fb
 have hmf:=mf
 have h1:∃ fa,w.cell? ⟨b,1,none⟩=some (.pointer (some fa)):=by
  rcases h.st with ⟨h1,_⟩|⟨what,place,ea,fb,_,_,_,h4,_⟩
  ·exact absurd h1 hn
  ·exact⟨_,h4⟩
 obtain⟨fa,h1⟩:=h1
 have H:=ae h
 clear h hn
 go_enter Tryz.func214,Tryz.ntmps214
 go_wp2_with fail
 refine(bX b fa _ _ (((aI w _ _ _).cell hlt (fun h=>h)).trans h1)).mono ?_
 rintro e w' ⟨rfl,rfl⟩
 go_wp2_with fail
 refine bodyPost_ret (v:=.int .u32 0) (by simp[results,Tryz.results214,go_sem]) rfl ⟨rfl,F,R.frame (S:=fun _=>False) (aa H) ?_ (fun _ _ h=>h),Fr.mono (S:=fun _=>False) ?_ (fun _ _ h=>h.elim),fun _ hk=>.inl hk⟩
 all_goals first|exact gT _ _ _ _ _ _|exact(aI w _ _ _).alloc _
theorem il (b Fc:Nat) (caps:Array Value) (F:Nat→Prop) (s:dy) (ea:Addr) (w:World) (h:R w b F s) (hn:s.f=none) (he:∀ W,(callFunc Fc caps).run Tryz.prog W = .ok (.enter Fc caps) W)
  (hread:∀ wk sv,Fr (fun k=>k=b) w wk→Rc wk b s.nm sv s.all s.place s.place→Calls Tryz.prog Fc caps wk fun e w'=>∃ fa,e = .panicked [aG fa]∧aQ wk w' b fa s.nm s.place ea) :
  Calls Tryz.prog 218 #[.pointer (some ⟨b,0,none⟩),.func (.func Fc) #[] caps] w fun e w'=>e = .returned (.string ⟨#[]⟩)∧∃ F',R w' b F' { s with f:=some (s.nm,s.place,ea) } ∧ Ch w w' F F':=by
 obtain⟨sv,hr,hF⟩:=h.rc hn
 have hlt:=h.lt b h.fb
 have hmf:=mf
 have H:=ae (And.intro h (And.intro hn (And.intro hr hF)))
 have HR:=ae hread
 clear h hn hr hF hread
 go_enter Tryz.func218,Tryz.ntmps218
 go_wp2_with fail
 refine(lz b Fc caps ⟨w.heap.size,0,none⟩ ⟨w.heap.size+1,0,none⟩ ⟨w.heap.size+1+1,0,none⟩ s.nm sv s.all s.place s.part ea ((aa H).2.2.1.frame (aI w _ _ _) (fun h=>h) (fun _ _ _ _ _ h=>h)) (lf _ _ _ _ _) (mm _ _ _ _ _) (by show w.heap.size≠b;omega) (by show w.heap.size+1≠b;omega) he (fun wk hf hr=>aa HR wk sv ((dJ w b _ _ _).trans hf (fun _ _ h=>h)) hr)).mono ?_
 rintro e w' ⟨rfl,w1,fa,hB,rfl⟩
 have hc2:=(hB.fr.cell (p:=⟨w.heap.size+1+1,0,none⟩) (by simp) (by show ¬ w.heap.size+1+1=b;omega)).trans (jW _ _ _ _ _)
 have hz2:=(hB.fr.frozen (p:=⟨w.heap.size+1+1,0,none⟩) (by simp) (by show ¬ w.heap.size+1+1=b;omega)).trans (pH _ _ _ _ _)
 have HB:=ae hB
 clear hB
 go_wp2_with fail
 obtain⟨F',hR,hC⟩:=gY (V:=.string ⟨#[]⟩) (aa H).1 (aa HB)
 exact bodyPost_ret (v:=.string ⟨#[]⟩) (by simp[results,Tryz.results218,go_sem,hc2]) rfl ⟨rfl,F',hR,hC⟩
theorem kJ (b Fc:Nat) (caps:Array Value) (F:Nat→Prop) (s:dy) (w:World) (h:R w b F s) (hn:s.f≠none) :
  Calls Tryz.prog 218 #[.pointer (some ⟨b,0,none⟩),.func (.func Fc) #[] caps] w fun e w'=>e = .returned (.string ⟨#[]⟩)∧∃ F',R w' b F' s∧Ch w w' F F':=by
 have hlt:=h.lt b h.fb
 have hmf:=mf
 have h1:∃ fa,w.cell? ⟨b,1,none⟩=some (.pointer (some fa)):=by
  rcases h.st with ⟨h1,_⟩|⟨what,place,ea,fb,_,_,_,h4,_⟩
  ·exact absurd h1 hn
  ·exact⟨_,h4⟩
 obtain⟨fa,h1⟩:=h1
 have H:=ae h
 clear h hn
 go_enter Tryz.func218,Tryz.ntmps218
 go_wp2_with fail
 refine(bX b fa _ _ (((aI w _ _ _).cell hlt (fun h=>h)).trans h1)).mono ?_
 rintro e w' ⟨rfl,rfl⟩
 go_wp2_with fail
 refine bodyPost_ret (v:=.string ⟨#[]⟩) (by simp[results,Tryz.results218,go_sem]) rfl ⟨rfl,F,R.frame (S:=fun _=>False) (aa H) ?_ (fun _ _ h=>h),Fr.mono (S:=fun _=>False) ?_ (fun _ _ h=>h.elim),fun _ hk=>.inl hk⟩
 all_goals first|exact gT _ _ _ _ _ _|exact(aI w _ _ _).alloc _
theorem sq (b Fc:Nat) (caps:Array Value) (F:Nat→Prop) (s:dy) (ea:Addr) (w:World) (h:R w b F s) (hn:s.f=none) (he:∀ W,(callFunc Fc caps).run Tryz.prog W = .ok (.enter Fc caps) W)
  (hread:∀ wk sv,Fr (fun k=>k=b) w wk→Rc wk b s.nm sv s.all s.place s.place→Calls Tryz.prog Fc caps wk fun e w'=>∃ fa,e = .panicked [aG fa]∧aQ wk w' b fa s.nm s.place ea) :
  Calls Tryz.prog 224 #[.pointer (some ⟨b,0,none⟩),.func (.func Fc) #[] caps] w fun e w'=>e = .returned (.int .i64 0)∧∃ F',R w' b F' { s with f:=some (s.nm,s.place,ea) } ∧ Ch w w' F F':=by
 obtain⟨sv,hr,hF⟩:=h.rc hn
 have hlt:=h.lt b h.fb
 have hmf:=mf
 have H:=ae (And.intro h (And.intro hn (And.intro hr hF)))
 have HR:=ae hread
 clear h hn hr hF hread
 go_enter Tryz.func224,Tryz.ntmps224
 go_wp2_with fail
 refine(qZ b Fc caps ⟨w.heap.size,0,none⟩ ⟨w.heap.size+1,0,none⟩ ⟨w.heap.size+1+1,0,none⟩ s.nm sv s.all s.place s.part ea ((aa H).2.2.1.frame (aI w _ _ _) (fun h=>h) (fun _ _ _ _ _ h=>h)) (lf _ _ _ _ _) (mm _ _ _ _ _) (by show w.heap.size≠b;omega) (by show w.heap.size+1≠b;omega) he (fun wk hf hr=>aa HR wk sv ((dJ w b _ _ _).trans hf (fun _ _ h=>h)) hr)).mono ?_
 rintro e w' ⟨rfl,w1,fa,hB,rfl⟩
 have hc2:=(hB.fr.cell (p:=⟨w.heap.size+1+1,0,none⟩) (by simp) (by show ¬ w.heap.size+1+1=b;omega)).trans (jW _ _ _ _ _)
 have hz2:=(hB.fr.frozen (p:=⟨w.heap.size+1+1,0,none⟩) (by simp) (by show ¬ w.heap.size+1+1=b;omega)).trans (pH _ _ _ _ _)
 have HB:=ae hB
 clear hB
 go_wp2_with fail
 obtain⟨F',hR,hC⟩:=gY (V:=.int .i64 0) (aa H).1 (aa HB)
 exact bodyPost_ret (v:=.int .i64 0) (by simp[results,Tryz.results224,go_sem,hc2]) rfl ⟨rfl,F',hR,hC⟩
theorem pF (b Fc:Nat) (caps:Array Value) (F:Nat→Prop) (s:dy) (w:World) (h:R w b F s) (hn:s.f≠none) :
  Calls Tryz.prog 224 #[.pointer (some ⟨b,0,none⟩),.func (.func Fc) #[] caps] w fun e w'=>e = .returned (.int .i64 0)∧∃ F',R w' b F' s∧Ch w w' F F':=by
 have hlt:=h.lt b h.fb
 have hmf:=mf
 have h1:∃ fa,w.cell? ⟨b,1,none⟩=some (.pointer (some fa)):=by
  rcases h.st with ⟨h1,_⟩|⟨what,place,ea,fb,_,_,_,h4,_⟩
  ·exact absurd h1 hn
  ·exact⟨_,h4⟩
 obtain⟨fa,h1⟩:=h1
 have H:=ae h
 clear h hn
 go_enter Tryz.func224,Tryz.ntmps224
 go_wp2_with fail
 refine(bX b fa _ _ (((aI w _ _ _).cell hlt (fun h=>h)).trans h1)).mono ?_
 rintro e w' ⟨rfl,rfl⟩
 go_wp2_with fail
 refine bodyPost_ret (v:=.int .i64 0) (by simp[results,Tryz.results224,go_sem]) rfl ⟨rfl,F,R.frame (S:=fun _=>False) (aa H) ?_ (fun _ _ h=>h),Fr.mono (S:=fun _=>False) ?_ (fun _ _ h=>h.elim),fun _ hk=>.inl hk⟩
 all_goals first|exact gT _ _ _ _ _ _|exact(aI w _ _ _).alloc _
theorem iW (b Fc:Nat) (caps:Array Value) (F:Nat→Prop) (s:dy) (ea:Addr) (w:World) (h:R w b F s) (hn:s.f=none) (he:∀ W,(callFunc Fc caps).run Tryz.prog W = .ok (.enter Fc caps) W)
  (hread:∀ wk sv,Fr (fun k=>k=b) w wk→Rc wk b s.nm sv s.all s.place s.place→Calls Tryz.prog Fc caps wk fun e w'=>∃ fa,e = .panicked [aG fa]∧aQ wk w' b fa s.nm s.place ea) :
  Calls Tryz.prog 222 #[.pointer (some ⟨b,0,none⟩),.func (.func Fc) #[] caps] w fun e w'=>e = .returned (.slice none 0 0)∧∃ F',R w' b F' { s with f:=some (s.nm,s.place,ea) } ∧ Ch w w' F F':=by
 obtain⟨sv,hr,hF⟩:=h.rc hn
 have hlt:=h.lt b h.fb
 have hmf:=mf
 have H:=ae (And.intro h (And.intro hn (And.intro hr hF)))
 have HR:=ae hread
 clear h hn hr hF hread
 go_enter Tryz.func222,Tryz.ntmps222
 go_wp2_with fail
 refine(mI b Fc caps ⟨w.heap.size,0,none⟩ ⟨w.heap.size+1,0,none⟩ ⟨w.heap.size+1+1,0,none⟩ s.nm sv s.all s.place s.part ea ((aa H).2.2.1.frame (aI w _ _ _) (fun h=>h) (fun _ _ _ _ _ h=>h)) (lf _ _ _ _ _) (mm _ _ _ _ _) (by show w.heap.size≠b;omega) (by show w.heap.size+1≠b;omega) he (fun wk hf hr=>aa HR wk sv ((dJ w b _ _ _).trans hf (fun _ _ h=>h)) hr)).mono ?_
 rintro e w' ⟨rfl,w1,fa,hB,rfl⟩
 have hc2:=(hB.fr.cell (p:=⟨w.heap.size+1+1,0,none⟩) (by simp) (by show ¬ w.heap.size+1+1=b;omega)).trans (jW _ _ _ _ _)
 have hz2:=(hB.fr.frozen (p:=⟨w.heap.size+1+1,0,none⟩) (by simp) (by show ¬ w.heap.size+1+1=b;omega)).trans (pH _ _ _ _ _)
 have HB:=ae hB
 clear hB
 go_wp2_with fail
 obtain⟨F',hR,hC⟩:=gY (V:=.slice none 0 0) (aa H).1 (aa HB)
 exact bodyPost_ret (v:=.slice none 0 0) (by simp[results,Tryz.results222,go_sem,hc2]) rfl ⟨rfl,F',hR,hC⟩
theorem k8 (b Fc:Nat) (caps:Array Value) (F:Nat→Prop) (s:dy) (w:World) (h:R w b F s) (hn:s.f≠none) :
  Calls Tryz.prog 222 #[.pointer (some ⟨b,0,none⟩),.func (.func Fc) #[] caps] w fun e w'=>e = .returned (.slice none 0 0)∧∃ F',R w' b F' s∧Ch w w' F F':=by
 have hlt:=h.lt b h.fb
 have hmf:=mf
 have h1:∃ fa,w.cell? ⟨b,1,none⟩=some (.pointer (some fa)):=by
  rcases h.st with ⟨h1,_⟩|⟨what,place,ea,fb,_,_,_,h4,_⟩
  ·exact absurd h1 hn
  ·exact⟨_,h4⟩
 obtain⟨fa,h1⟩:=h1
 have H:=ae h
 clear h hn
 go_enter Tryz.func222,Tryz.ntmps222
 go_wp2_with fail
 refine(bX b fa _ _ (((aI w _ _ _).cell hlt (fun h=>h)).trans h1)).mono ?_
 rintro e w' ⟨rfl,rfl⟩
 go_wp2_with fail
 refine bodyPost_ret (v:=.slice none 0 0) (by simp[results,Tryz.results222,go_sem]) rfl ⟨rfl,F,R.frame (S:=fun _=>False) (aa H) ?_ (fun _ _ h=>h),Fr.mono (S:=fun _=>False) ?_ (fun _ _ h=>h.elim),fun _ hk=>.inl hk⟩
 all_goals first|exact gT _ _ _ _ _ _|exact(aI w _ _ _).alloc _
theorem gy (b Fc:Nat) (caps:Array Value) (F:Nat→Prop) (s:dy) (ea:Addr) (w:World) (h:R w b F s) (hn:s.f=none) (he:∀ W,(callFunc Fc caps).run Tryz.prog W = .ok (.enter Fc caps) W)
  (hread:∀ wk sv,Fr (fun k=>k=b) w wk→Rc wk b s.nm sv s.all s.place s.place→Calls Tryz.prog Fc caps wk fun e w'=>∃ fa,e = .panicked [aG fa]∧aQ wk w' b fa s.nm s.place ea) :
  Calls Tryz.prog 216 #[.pointer (some ⟨b,0,none⟩),.func (.func Fc) #[] caps] w fun e w'=>e = .returned (.float .f32 0)∧∃ F',R w' b F' { s with f:=some (s.nm,s.place,ea) } ∧ Ch w w' F F':=by
 obtain⟨sv,hr,hF⟩:=h.rc hn
 have hlt:=h.lt b h.fb
 have hmf:=mf
 have H:=ae (And.intro h (And.intro hn (And.intro hr hF)))
 have HR:=ae hread
 clear h hn hr hF hread
 go_enter Tryz.func216,Tryz.ntmps216
 go_wp2_with fail
 refine(kK b Fc caps ⟨w.heap.size,0,none⟩ ⟨w.heap.size+1,0,none⟩ ⟨w.heap.size+1+1,0,none⟩ s.nm sv s.all s.place s.part ea ((aa H).2.2.1.frame (aI w _ _ _) (fun h=>h) (fun _ _ _ _ _ h=>h)) (lf _ _ _ _ _) (mm _ _ _ _ _) (by show w.heap.size≠b;omega) (by show w.heap.size+1≠b;omega) he (fun wk hf hr=>aa HR wk sv ((dJ w b _ _ _).trans hf (fun _ _ h=>h)) hr)).mono ?_
 rintro e w' ⟨rfl,w1,fa,hB,rfl⟩
 have hc2:=(hB.fr.cell (p:=⟨w.heap.size+1+1,0,none⟩) (by simp) (by show ¬ w.heap.size+1+1=b;omega)).trans (jW _ _ _ _ _)
 have hz2:=(hB.fr.frozen (p:=⟨w.heap.size+1+1,0,none⟩) (by simp) (by show ¬ w.heap.size+1+1=b;omega)).trans (pH _ _ _ _ _)
 have HB:=ae hB
 clear hB
 go_wp2_with fail
 obtain⟨F',hR,hC⟩:=gY (V:=.float .f32 0) (aa H).1 (aa HB)
 exact bodyPost_ret (v:=.float .f32 0) (by simp[results,Tryz.results216,go_sem,hc2]) rfl ⟨rfl,F',hR,hC⟩
theorem jH (b Fc:Nat) (caps:Array Value) (F:Nat→Prop) (s:dy) (w:World) (h:R w b F s) (hn:s.f≠none) :
  Calls Tryz.prog 216 #[.pointer (some ⟨b,0,none⟩),.func (.func Fc) #[] caps] w fun e w'=>e = .returned (.float .f32 0)∧∃ F',R w' b F' s∧Ch w w' F F':=by
 have hlt:=h.lt b h.fb
 have hmf:=mf
 have h1:∃ fa,w.cell? ⟨b,1,none⟩=some (.pointer (some fa)):=by
  rcases h.st with ⟨h1,_⟩|⟨what,place,ea,fb,_,_,_,h4,_⟩
  ·exact absurd h1 hn
  ·exact⟨_,h4⟩
 obtain⟨fa,h1⟩:=h1
 have H:=ae h
 clear h hn
 go_enter Tryz.func216,Tryz.ntmps216
 go_wp2_with fail
 refine(bX b fa _ _ (((aI w _ _ _).cell hlt (fun h=>h)).trans h1)).mono ?_
 rintro e w' ⟨rfl,rfl⟩
 go_wp2_with fail
 refine bodyPost_ret (v:=.float .f32 0) (by simp[results,Tryz.results216,go_sem]) rfl ⟨rfl,F,R.frame (S:=fun _=>False) (aa H) ?_ (fun _ _ h=>h),Fr.mono (S:=fun _=>False) ?_ (fun _ _ h=>h.elim),fun _ hk=>.inl hk⟩
 all_goals first|exact gT _ _ _ _ _ _|exact(aI w _ _ _).alloc _
end Go.Proofs.YtdcopmkgmbiikaaGreatDoor
