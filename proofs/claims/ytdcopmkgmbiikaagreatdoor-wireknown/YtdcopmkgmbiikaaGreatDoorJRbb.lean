import Derived.Test.YtdcopmkgmbiikaaGreatDoorJRba
set_option maxRecDepth 100000
set_option maxHeartbeats 1000000
namespace Go.Proofs.YtdcopmkgmbiikaaGreatDoor
open Go.RowKit
def iJ (all:List Nat) (place:Nat) (most:Int) (E:Nat→Addr) (ea:Addr):Prop:=
 (all.length<4+place∧ea=E 1)∨(4+place≤all.length∧most<(val ((all.drop place).take 4):Int)∧ea=E 2)
theorem sW (b place part:Nat) (most:Int) (nm:ByteArray) (sv:Value) (all:List Nat) (E:Nat→Addr) (w:World) (hb:9≤b) (h0:most<0) (hg:Gl w E) (h:Rc w b nm sv all place part) (hn:4+place≤all.length) :
  Calls Tryz.prog 221 #[.pointer (some ⟨b,0,none⟩),.int .i64 most] w fun e w'=>∃ fa,e = .panicked [aG fa]∧aQ w w' b fa nm part (E 2):=by
 have HT:=ae (dw b 4 place part nm sv all E w (by decide) hg h hn)
 have HG:=ae hg
 clear hg h
 generalize val ((all.drop place).take 4)=x at *
 go_enter Tryz.func221,Tryz.ntmps221
 go_wp2_with fail
 refine(aa HT).mono ?_
 rintro e w1 ⟨rfl,hr,hf⟩
 have he:=((aa HG).gn hf hb).e2
 have c0:=hr.c0
 have c4:=hr.c4
 have HRF:=ae (And.intro hr hf)
 clear hr hf HT HG
 go_wp2_with fail
 refine(bN b part nm (E 2) w1 c0 c4).mono ?_
 rintro e w' ⟨rfl,rfl⟩
 exact⟨rfl,_,rfl,aQ.of (aa HRF).1 (aa HRF).2 (j4 w1 nm part (E 2))⟩
theorem iP {b place part:Nat} {most:Int} {nm:ByteArray} {sv:Value} {all:List Nat} {E:Nat→Addr} {ea:Addr} {w:World} (hc:iJ all place most E ea) (hb:9≤b) (hm:most<9223372036854775808) (hg:Gl w E) (h:Rc w b nm sv all place part) :
  Calls Tryz.prog 221 #[.pointer (some ⟨b,0,none⟩),.int .i64 most] w fun e w'=>∃ fa,e = .panicked [aG fa]∧aQ w w' b fa nm part ea:=by
 rcases hc with ⟨h1,rfl⟩|⟨h1,h2,rfl⟩
 ·exact oI b place part most nm sv all E w hg h h1
 ·by_cases h0:most<0
  ·exact sW b place part most nm sv all E w hb h0 hg h h1
  ·exact qf b place part most nm sv all E w hb hm (by omega) hg h h1 h2
theorem qW (b place part:Nat) (most:Int) (p0 p1 ea:Addr) (nm:ByteArray) (sv:Value) (all:List Nat) (E:Nat→Addr) (w:World) (hc:iJ all place most E ea) (hb:9≤b) (hm:most<9223372036854775808) (hg:Gl w E) (h:Rc w b nm sv all place part)
  (hp0:w.cell? p0=some (.pointer (some ⟨b,0,none⟩))) (hp1:w.cell? p1=some (.int .i64 most)) :
  Calls Tryz.prog 225 #[.pointer (some p0),.pointer (some p1)] w fun e w'=>∃ fa,e = .panicked [aG fa]∧aQ w w' b fa nm part ea:=by
 have HC:=ae (iP hc hb hm hg h)
 clear hg h hc
 go_enter Tryz.func225,Tryz.ntmps225
 go_wp2_with fail
 refine(aa HC).mono ?_
 rintro e w1 ⟨fa,rfl,hB⟩
 exact⟨rfl,fa,rfl,hB⟩
theorem pI (b:Nat) (w:World):Fr (fun k=>k=b) w w.drew:=(Fr.refl _ _).drew
theorem qj (b place part:Nat) (most:Int) (p0 p1 ea:Addr) (nm:ByteArray) (sv:Value) (all:List Nat) (E:Nat→Addr) (w:World) (hc:iJ all place most E ea) (hb:9≤b) (hm:most<9223372036854775808) (hg:Gl w E) (h:Rc w b nm sv all place part)
  (hp0:w.cell? p0=some (.pointer (some ⟨b,0,none⟩))) (hp1:w.cell? p1=some (.int .i64 most)) :
  Calls Tryz.prog 223 #[.pointer (some p0),.pointer (some p1)] w fun e w'=>∃ fa,e = .panicked [aG fa]∧aQ w w' b fa nm part ea:=by
 have HC:=ae (iP hc hb hm hg.drew h.drew)
 clear hg h hc
 go_enter Tryz.func223,Tryz.ntmps223
 go_wp2_with fail
 go_region_dies
 all_goals
  go_wp2_with fail
  refine(aa HC).mono ?_
  rintro e w1 ⟨fa,rfl,hB⟩
  exact⟨rfl,fa,rfl,hB.before (pI b w)⟩
theorem sN (b place part:Nat) (most:Int) (p0 p1 ea:Addr) (nm:ByteArray) (sv:Value) (all:List Nat) (E:Nat→Addr) (w:World) (hc:iJ all place most E ea) (hb:9≤b) (hm:most<9223372036854775808) (hg:Gl w E) (h:Rc w b nm sv all place part)
  (hp0:w.cell? p0=some (.pointer (some ⟨b,0,none⟩))) (hp1:w.cell? p1=some (.int .i64 most)) :
  Calls Tryz.prog 219 #[.pointer (some p0),.pointer (some p1)] w fun e w'=>∃ fa,e = .panicked [aG fa]∧aQ w w' b fa nm part ea:=by
 have HC:=ae (iP hc hb hm hg.drew h.drew)
 clear hg h hc
 go_enter Tryz.func219,Tryz.ntmps219
 go_wp2_with fail
 go_region_dies
 all_goals
  go_wp2_with fail
  refine(aa HC).mono ?_
  rintro e w1 ⟨fa,rfl,hB⟩
  exact⟨rfl,fa,rfl,hB.before (pI b w)⟩
end Go.Proofs.YtdcopmkgmbiikaaGreatDoor
