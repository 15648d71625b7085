import Derived.Test.YtdcopmkgmbiikaaGreatDoorJDon
import Derived.Test.YtdcopmkgmbiikaaGreatDoorJDrw
import Derived.Deep.QuietTactic
import Derived.BigQuiet
set_option maxRecDepth 100000
set_option maxHeartbeats 1000000
namespace Go.Proofs.YtdcopmkgmbiikaaGreatDoor
open Go.RowKit
structure Rc (w:World) (b:Nat) (nm:ByteArray) (sv:Value) (all:List Nat) (place part:Nat):Prop where
 c0:w.cell? ⟨b,0,none⟩=some (.string nm)
 c1:w.cell? ⟨b,1,none⟩=some (.pointer none)
 c2:w.cell? ⟨b,2,none⟩=some sv
 c3:w.cell? ⟨b,3,none⟩=some (.int .i64 place)
 c4:w.cell? ⟨b,4,none⟩=some (.int .i64 part)
 fz:∀ i,w.frozen? ⟨b,i,none⟩=false
 src:Src w sv all
 ns:∀ g o m c,sv = .slice (some ⟨g,o,none⟩) m c→g≠b∧m≤c∧m≤140737488355328
 le:place≤all.length
theorem ga (b:Nat) (why:Value) (w:World) :
  Calls Tryz.prog 198 #[.pointer (some ⟨b,0,none⟩),.bool false,why] w fun e w'=>e = .returned (.tuple #[])∧w'=w:=by
 go_enter Tryz.func198,Tryz.ntmps198
 go_wp2
 go_end0
 exact⟨rfl,rfl⟩
theorem bN (b part:Nat) (nm:ByteArray) (ea:Addr) (w:World) (h0:w.cell? ⟨b,0,none⟩=some (.string nm)) (h4:w.cell? ⟨b,4,none⟩=some (.int .i64 part)) :
  Calls Tryz.prog 198 #[.pointer (some ⟨b,0,none⟩),.bool true,.iface 339 (.pointer (some ea))] w fun e w'=>e = .panicked [aG ⟨w.heap.size,0,none⟩]∧w'=(w.alloc (aJ nm part ea)).drew:=by
 go_enter Tryz.func198,Tryz.ntmps198
 go_wp2
 go_region_dies
 all_goals
  go_wp2_with fail
  refine(ki b part nm ea w.drew (by simpa using h0)).mono ?_
  rintro e w' ⟨rfl,rfl⟩
  exact⟨rfl,rfl,rfl⟩
theorem bl (w:World) (nm:ByteArray) (place:Nat) (ea:Addr):sA w (w.drew.alloc (aJ nm place ea)).drew ⟨w.drew.heap.size,0,none⟩ nm place ea:=
 ⟨((Fr.refl _ _).drew.alloc _).drew,⟨rfl,rfl,Nat.le_refl _⟩,heap_alloc_new w.drew _⟩
theorem Rc.Cp {w:World} {b:Nat} {nm:ByteArray} {sv:Value} {all:List Nat} {place part:Nat} (h:Rc w b nm sv all place part) (p' a q:Nat) (hp:p'≤all.length) :
  Rc (((w.drewN a).setCell ⟨b,3,none⟩ (.int .i64 p')).drewN q) b nm sv all p' part∧Fr (fun k=>k=b) w (((w.drewN a).setCell ⟨b,3,none⟩ (.int .i64 p')).drewN q):=by
 have hf:Fr (fun k=>k=b) w (((w.drewN a).setCell ⟨b,3,none⟩ (.int .i64 p')).drewN q):=(Fr.setCell (S:=fun k=>k=b) ((Fr.refl _ _).drewN a) (.inl rfl) _).drewN q
 have hc:∀ i,i≠3→(((w.drewN a).setCell ⟨b,3,none⟩ (.int .i64 p')).drewN q).cell? ⟨b,i,none⟩=w.cell? ⟨b,i,none⟩:=fun i hi=>by
  rw[World.cell?_drewN,World.cell?_setCell_other _ _ _ _ (by intro h;injection h with _ h2 _;exact hi h2.symm),World.cell?_drewN]
 refine⟨⟨(hc 0 (by decide)).trans h.c0,(hc 1 (by decide)).trans h.c1,(hc 2 (by decide)).trans h.c2,?_,(hc 4 (by decide)).trans h.c4,fun i=>?_,h.src.fr hf (fun g o m c e=>(h.ns g o m c e).1),h.ns,hp⟩,hf⟩
 ·rw[World.cell?_drewN];exact World.cell?_setCell_same _ _ _ (by rw[World.cell?_drewN];exact h.c3)
 ·rw[World.frozen?_drewN,World.frozen?_setCell,World.frozen?_drewN];exact h.fz i
theorem Rc.form {w:World} {b:Nat} {nm:ByteArray} {sv:Value} {all:List Nat} {place part:Nat} (h:Rc w b nm sv all place part):∃ ao cap,sv = .slice ao all.length cap∧all.length≤cap∧all.length≤140737488355328:=by
 rcases h.src with ⟨rfl,rfl⟩|⟨g,o,c,rfl,_⟩|⟨a,c,rfl,rfl⟩
 ·exact⟨none,0,rfl,by simp,by simp⟩
 ·exact⟨_,c,rfl,(h.ns _ _ _ _ rfl).2⟩
 ·exact⟨_,c,rfl,by simp,by simp⟩
theorem Src.cut {w:World} {ao:Option Addr} {all:List Nat} {cap:Nat} (h:Src w (.slice ao all.length cap) all) (place n:Nat) (hn:n+place≤all.length) (hlc:all.length≤cap) :
  Src w (.slice (if cap=place then ao else ao.map (·.add place)) n (cap - place)) ((all.drop place).take n):=by
 have hlen:((all.drop place).take n).length=n:=by simp;omega
 rcases h with ⟨hx,rfl⟩|⟨g,o,c,hx,hc⟩|⟨a,c,hx,rfl⟩
 rotate_left 2
 ·simp only[Value.slice.injEq] at hx
  obtain⟨rfl,-,rfl⟩:=hx
  simp at hn
  obtain⟨rfl,rfl⟩:=hn
  by_cases hcp:cap=0
  ·rw[if_pos hcp];exact .inr (.inr ⟨a,cap - 0,rfl,by simp⟩)
  ·rw[if_neg hcp];exact .inr (.inr ⟨a.add 0,cap - 0,rfl,by simp⟩)
 ·simp only[Value.slice.injEq] at hx
  obtain⟨rfl,-,rfl⟩:=hx
  simp at hn
  obtain⟨rfl,rfl⟩:=hn
  exact .inl ⟨by simp,by simp⟩
 ·simp only[Value.slice.injEq] at hx
  obtain⟨rfl,-,rfl⟩:=hx
  by_cases hcp:cap=place
  ·rw[if_pos hcp]
   have hn0:n=0:=by omega
   subst hn0
   exact .inr (.inl ⟨g,o,cap - place,by simp,fun j v hv=>by simp[cellsOf] at hv⟩)
  ·rw[if_neg hcp]
   refine .inr (.inl ⟨g,o+place,cap - place,?_,fun j v hv=>?_⟩)
   ·rw[hlen]
    have e:(⟨g,o,none⟩:Addr).add place=⟨g,o+place,none⟩:=by unfold Addr.add;split <;> simp_all
    simp[e]
   ·have hj:j<n:=by
     have:=(List.getElem?_eq_some_iff.1 hv).1
     simpa[eV,hlen] using this
    rw[Nat.add_assoc]
    refine hc (place+j) v ?_
    rw[← hv]
    simp[cellsOf,hj]
theorem x6 (b n place len cap:Nat) (ao:Option Addr) (ea:Addr) (w:World) (hn:n+place≤len) (hlc:len≤cap) (hc:len≤140737488355328)
  (he:w.cell? ⟨0,0,none⟩=some (.iface 339 (.pointer (some ea))))
  (h2:w.cell? ⟨b,2,none⟩=some (.slice ao len cap)) (h3:w.cell? ⟨b,3,none⟩=some (.int .i64 place)) (f3:w.frozen? ⟨b,3,none⟩=false) :
  Calls Tryz.prog 220 #[.pointer (some ⟨b,0,none⟩),.int .i64 n] w fun e w'=>e = .returned (.slice (if cap=place then ao else ao.map (·.add place)) n (cap - place))∧∃ a q,w'=((w.drewN a).setCell ⟨b,3,none⟩ (.int .i64 (place+n:Nat))).drewN q:=by
 have hw:IntKind.i64.wrap ((len:Int) - place)=(len:Int) - place:=by rw[IntKind.wrap_i64];omega
 have hd:decide ((len:Int) - place<n)=false:=by simp;omega
 go_enter Tryz.func220,Tryz.ntmps220
 go_wp2_with fail
 go_quiet ((go_at_call 198;exact Calls.quiet_of_same (ga _ _ _)))
 go_wp2_with fail
 go_quiet (fail)
 go_wp2_with fail
 all_goals
  go_ret
  exact⟨rfl,_,_,rfl⟩
theorem oA (b n place part:Nat) (nm:ByteArray) (sv:Value) (all:List Nat) (E:Nat→Addr) (w:World) (hg:Gl w E) (h:Rc w b nm sv all place part) (hn:n+place≤all.length) :
  Calls Tryz.prog 220 #[.pointer (some ⟨b,0,none⟩),.int .i64 n] w fun e w'=>∃ v,e = .returned v∧Src w' v ((all.drop place).take n)∧Rc w' b nm sv all (place+n) part∧Fr (fun k=>k=b) w w':=by
 obtain⟨ao,cap,rfl,hlc,hcb⟩:=h.form
 refine(x6 b n place all.length cap ao (E 1) w hn hlc hcb hg.e1 h.c2 h.c3 (h.fz 3)).mono ?_
 rintro e w' ⟨rfl,a,q,rfl⟩
 obtain⟨hr,hf⟩:=h.Cp (place+n) a q (by omega)
 exact⟨_,rfl,(hr.src.cut place n hn hlc),hr,hf⟩
theorem bK (b n place part:Nat) (nm:ByteArray) (sv:Value) (all:List Nat) (E:Nat→Addr) (w:World) (hg:Gl w E) (h:Rc w b nm sv all place part) (hn:all.length<n+place) (hnb:n<9223372036854775808) :
  Calls Tryz.prog 220 #[.pointer (some ⟨b,0,none⟩),.int .i64 n] w fun e w'=>∃ fa,e = .panicked [aG fa]∧sA w w' fa nm part (E 1):=by
 obtain⟨ao,cap,rfl,hlc,hcb⟩:=h.form
 have he:=hg.e1
 have h0:=h.c0
 have h2:=h.c2
 have h3:=h.c3
 have h4:=h.c4
 have hle:=h.le
 clear hg h
 have hw:IntKind.i64.wrap ((all.length:Int) - place)=(all.length:Int) - place:=by rw[IntKind.wrap_i64];omega
 have hd:decide ((all.length:Int) - place<n)=true:=by simp;omega
 go_enter Tryz.func220,Tryz.ntmps220
 go_wp2_with fail
 go_region_dies
 all_goals
  go_wp2_with fail
  refine(bN b part nm (E 1) w.drew (by simpa using h0) (by simpa using h4)).mono ?_
  rintro e w' ⟨rfl,rfl⟩
  exact⟨rfl,_,rfl,bl w nm part (E 1)⟩
end Go.Proofs.YtdcopmkgmbiikaaGreatDoor
