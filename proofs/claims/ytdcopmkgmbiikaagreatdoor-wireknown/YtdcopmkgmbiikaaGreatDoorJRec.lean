import Derived.Test.YtdcopmkgmbiikaaGreatDoorJReb
namespace Go.Proofs.YtdcopmkgmbiikaaGreatDoor
open Go.RowKit
theorem fm (b size place part:Nat) (nm:ByteArray) (sv:Value) (all:List Nat) (E:Nat→Addr) (w:World) (hs:size≤8) (hg:Gl w E) (h:Rc w b nm sv all place part) (hn:all.length<size+place) :
  Calls Tryz.prog 213 #[.pointer (some ⟨b,0,none⟩),.int .i64 size] w fun e w'=>∃ fa,e = .panicked [aG fa]∧sA w w' fa nm part (E 1):=by
 have HT:=ae (bK b size place part nm sv all E w hg h hn (by omega))
 clear hg h
 go_enter Tryz.func213,Tryz.ntmps213
 go_wp2_with fail
 refine(aa HT).mono ?_
 rintro e w1 ⟨fa,rfl,hB⟩
 exact⟨rfl,fa,rfl,hB⟩
structure aQ (w w':World) (b:Nat) (fa:Addr) (nm:ByteArray) (place:Nat) (ea:Addr):Prop where
 fr:Fr (fun k=>k=b) w w'
 c0:w'.cell? ⟨b,0,none⟩=some (.string nm)
 c1:w'.cell? ⟨b,1,none⟩=some (.pointer none)
 fz:∀ i,w'.frozen? ⟨b,i,none⟩=false
 yE:fa.off=0∧fa.spot=none∧w.heap.size≤fa.block
 c:w'.heap[fa.block]?=some (aJ nm place ea)
theorem aQ.of {w w1 w':World} {b:Nat} {fa ea:Addr} {nm:ByteArray} {sv:Value} {all:List Nat} {p place part:Nat} (hr:Rc w1 b nm sv all place part) (hf:Fr (fun k=>k=b) w w1) (hb:sA w1 w' fa nm p ea):aQ w w' b fa nm p ea:=by
 have hlt:b<w1.heap.size:=ab hr.c0
 exact⟨hf.trans hb.fr (fun _ _ h=>h.elim),(hb.fr.cell hlt (fun h=>h)).trans hr.c0,(hb.fr.cell hlt (fun h=>h)).trans hr.c1,fun i=>(hb.fr.frozen hlt (fun h=>h)).trans (hr.fz i),⟨hb.yE.1,hb.yE.2.1,Nat.le_trans hf.size hb.yE.2.2⟩,hb.c⟩
theorem Gl.gn {w w':World} {E:Nat→Addr} {b:Nat} (h:Gl w E) (hf:Fr (fun k=>k=b) w w') (hb:9≤b):Gl w' E:=h.fr hf (fun _ e=>e ▸ hb)
theorem fL (b place part:Nat) (most:Int) (nm:ByteArray) (sv:Value) (all:List Nat) (E:Nat→Addr) (w:World) (hb:9≤b) (hm:most<9223372036854775808) (hg:Gl w E) (h:Rc w b nm sv all place part) (hn:4+place≤all.length) (hv:(val ((all.drop place).take 4):Int)≤most) :
  Calls Tryz.prog 221 #[.pointer (some ⟨b,0,none⟩),.int .i64 most] w fun e w'=>e = .returned (.int .i64 (val ((all.drop place).take 4)))∧Rc w' b nm sv all (place+4) part∧Fr (fun k=>k=b) w w':=by
 have HT:=ae (dw b 4 place part nm sv all E w (by decide) hg h hn)
 have HG:=ae hg
 clear hg h
 generalize val ((all.drop place).take 4)=x at *
 have h0:0≤most:=by omega
 go_enter Tryz.func221,Tryz.ntmps221
 go_wp2_with fail
 refine(aa HT).mono ?_
 rintro e w1 ⟨rfl,hr,hf⟩
 have he:=((aa HG).gn hf hb).e2
 have HRF:=ae (And.intro hr hf)
 clear hr hf HT HG
 have hw:IntKind.u64.wrap most=most:=by rw[IntKind.wrap_u64];omega
 have hd:decide (most<(x:Int))=false:=by simp;omega
 have hd0:decide (most<0)=false:=by simp;omega
 go_wp2_with fail
 refine(ga _ _ _).mono ?_
 rintro e w' ⟨rfl,rfl⟩
 go_wp2_with fail
 go_ret
 exact⟨rfl,aa HRF⟩
theorem oI (b place part:Nat) (most:Int) (nm:ByteArray) (sv:Value) (all:List Nat) (E:Nat→Addr) (w:World) (hg:Gl w E) (h:Rc w b nm sv all place part) (hn:all.length<4+place) :
  Calls Tryz.prog 221 #[.pointer (some ⟨b,0,none⟩),.int .i64 most] w fun e w'=>∃ fa,e = .panicked [aG fa]∧aQ w w' b fa nm part (E 1):=by
 have HT:=ae (fm b 4 place part nm sv all E w (by decide) hg h hn)
 have H:=ae h
 clear hg h
 go_enter Tryz.func221,Tryz.ntmps221
 go_wp2_with fail
 refine(aa HT).mono ?_
 rintro e w1 ⟨fa,rfl,hB⟩
 exact⟨rfl,fa,rfl,aQ.of (aa H) (Fr.refl _ _) hB⟩
theorem qf (b place part:Nat) (most:Int) (nm:ByteArray) (sv:Value) (all:List Nat) (E:Nat→Addr) (w:World) (hb:9≤b) (hm:most<9223372036854775808) (hm':-9223372036854775808≤most) (hg:Gl w E) (h:Rc w b nm sv all place part) (hn:4+place≤all.length) (hv:most<(val ((all.drop place).take 4):Int)) :
  Calls Tryz.prog 221 #[.pointer (some ⟨b,0,none⟩),.int .i64 most] w fun e w'=>∃ fa,e = .panicked [aG fa]∧aQ w w' b fa nm part (E 2):=by
 have HT:=ae (dw b 4 place part nm sv all E w (by decide) hg h hn)
 have HG:=ae hg
 clear hg h
 generalize val ((all.drop place).take 4)=x at *
 by_cases h0:most<0
 ·go_enter Tryz.func221,Tryz.ntmps221
  go_wp2_with fail
  refine(aa HT).mono ?_
  rintro e w1 ⟨rfl,hr,hf⟩
  have he:=((aa HG).gn hf hb).e2
  have c0:=hr.c0
  have c4:=hr.c4
  have HRF:=ae (And.intro hr hf)
  clear hr hf HT HG
  go_wp2_with fail
  refine(bN b part nm (E 2) w1 c0 c4).mono ?_
  rintro e w' ⟨rfl,rfl⟩
  exact⟨rfl,_,rfl,aQ.of (aa HRF).1 (aa HRF).2 (j4 w1 nm part (E 2))⟩
 ·have hw:IntKind.u64.wrap most=most:=by rw[IntKind.wrap_u64];omega
  have hd0:decide (most<0)=false:=by simp;omega
  have hd:decide (most<(x:Int))=true:=by simp;omega
  go_enter Tryz.func221,Tryz.ntmps221
  go_wp2_with fail
  refine(aa HT).mono ?_
  rintro e w1 ⟨rfl,hr,hf⟩
  have he:=((aa HG).gn hf hb).e2
  have c0:=hr.c0
  have c4:=hr.c4
  have HRF:=ae (And.intro hr hf)
  clear hr hf HT HG
  go_wp2_with fail
  refine(bN b part nm (E 2) w1 c0 c4).mono ?_
  rintro e w' ⟨rfl,rfl⟩
  exact⟨rfl,_,rfl,aQ.of (aa HRF).1 (aa HRF).2 (j4 w1 nm part (E 2))⟩
theorem AA (b place part:Nat) (p0:Addr) (nm:ByteArray) (sv:Value) (all:List Nat) (E:Nat→Addr) (w:World) (hg:Gl w E) (h:Rc w b nm sv all place part) (hp0:w.cell? p0=some (.pointer (some ⟨b,0,none⟩))) (hn:1+place≤all.length) :
  Calls Tryz.prog 212 #[.pointer (some p0)] w fun e w'=>e = .returned (.int .u8 (val ((all.drop place).take 1)))∧Rc w' b nm sv all (place+1) part∧Fr (fun k=>k=b) w w':=by
 have HT:=ae (dw b 1 place part nm sv all E w (by decide) hg h hn)
 have hlt:val ((all.drop place).take 1)<256:=by
  have h1:=gD ((all.drop place).take 1)
  have h2:((all.drop place).take 1).length=1:=by simp;omega
  rw[h2] at h1;exact h1
 clear hg h
 generalize val ((all.drop place).take 1)=x at *
 go_enter Tryz.func212,Tryz.ntmps212
 go_wp2_with fail
 refine(aa HT).mono ?_
 rintro e w1 ⟨rfl,hr⟩
 have HR:=ae hr
 clear hr HT
 go_wp2_with fail
 go_ret
 exact⟨rfl,aa HR⟩
theorem qs (b place part:Nat) (p0:Addr) (nm:ByteArray) (sv:Value) (all:List Nat) (E:Nat→Addr) (w:World) (hg:Gl w E) (h:Rc w b nm sv all place part) (hp0:w.cell? p0=some (.pointer (some ⟨b,0,none⟩))) (hn:all.length<1+place) :
  Calls Tryz.prog 212 #[.pointer (some p0)] w fun e w'=>∃ fa,e = .panicked [aG fa]∧aQ w w' b fa nm part (E 1):=by
 have HT:=ae (fm b 1 place part nm sv all E w (by decide) hg h hn)
 have H:=ae h
 clear hg h
 go_enter Tryz.func212,Tryz.ntmps212
 go_wp2_with fail
 refine(aa HT).mono ?_
 rintro e w1 ⟨fa,rfl,hB⟩
 exact⟨rfl,fa,rfl,aQ.of (aa H) (Fr.refl _ _) hB⟩
theorem xt (b place part:Nat) (p0:Addr) (nm:ByteArray) (sv:Value) (all:List Nat) (E:Nat→Addr) (w:World) (hg:Gl w E) (h:Rc w b nm sv all place part) (hp0:w.cell? p0=some (.pointer (some ⟨b,0,none⟩))) (hn:4+place≤all.length) :
  Calls Tryz.prog 215 #[.pointer (some p0)] w fun e w'=>e = .returned (.int .u32 (val ((all.drop place).take 4)))∧Rc w' b nm sv all (place+4) part∧Fr (fun k=>k=b) w w':=by
 have HT:=ae (dw b 4 place part nm sv all E w (by decide) hg h hn)
 have hlt:val ((all.drop place).take 4)<4294967296:=by
  have h1:=gD ((all.drop place).take 4)
  have h2:((all.drop place).take 4).length=4:=by simp;omega
  rw[h2] at h1;exact h1
 clear hg h
 generalize val ((all.drop place).take 4)=x at *
 go_enter Tryz.func215,Tryz.ntmps215
 go_wp2_with fail
 refine(aa HT).mono ?_
 rintro e w1 ⟨rfl,hr⟩
 have HR:=ae hr
 clear hr HT
 go_wp2_with fail
 go_ret
 exact⟨rfl,aa HR⟩
theorem px (b place part:Nat) (p0:Addr) (nm:ByteArray) (sv:Value) (all:List Nat) (E:Nat→Addr) (w:World) (hg:Gl w E) (h:Rc w b nm sv all place part) (hp0:w.cell? p0=some (.pointer (some ⟨b,0,none⟩))) (hn:all.length<4+place) :
  Calls Tryz.prog 215 #[.pointer (some p0)] w fun e w'=>∃ fa,e = .panicked [aG fa]∧aQ w w' b fa nm part (E 1):=by
 have HT:=ae (fm b 4 place part nm sv all E w (by decide) hg h hn)
 have H:=ae h
 clear hg h
 go_enter Tryz.func215,Tryz.ntmps215
 go_wp2_with fail
 refine(aa HT).mono ?_
 rintro e w1 ⟨fa,rfl,hB⟩
 exact⟨rfl,fa,rfl,aQ.of (aa H) (Fr.refl _ _) hB⟩
end Go.Proofs.YtdcopmkgmbiikaaGreatDoor
