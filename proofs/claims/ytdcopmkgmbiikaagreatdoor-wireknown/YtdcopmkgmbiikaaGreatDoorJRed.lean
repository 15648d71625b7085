import Derived.Test.YtdcopmkgmbiikaaGreatDoorJRec
set_option maxRecDepth 100000
set_option maxHeartbeats 1000000
namespace Go.Proofs.YtdcopmkgmbiikaaGreatDoor
open Go.RowKit
theorem Gl.drew {w:World} {E:Nat→Addr} (h:Gl w E):Gl w.drew E:=⟨h.e1,h.e2,h.e3⟩
theorem Rc.drew {w:World} {b:Nat} {nm:ByteArray} {sv:Value} {all:List Nat} {place part:Nat} (h:Rc w b nm sv all place part):Rc w.drew b nm sv all place part:=
 ⟨h.c0,h.c1,h.c2,h.c3,h.c4,h.fz,h.src,h.ns,h.le⟩
theorem Rc.frame {w w':World} {b:Nat} {nm:ByteArray} {sv:Value} {all:List Nat} {place part:Nat} {S:Nat→Prop} (h:Rc w b nm sv all place part) (hf:Fr S w w') (hb:¬ S b) (hs:∀ g o m c,sv = .slice (some ⟨g,o,none⟩) m c→¬ S g):Rc w' b nm sv all place part:=by
 have hlt:b<w.heap.size:=ab h.c0
 have hc:∀ i,w'.cell? ⟨b,i,none⟩=w.cell? ⟨b,i,none⟩:=fun i=>hf.cell hlt hb
 exact⟨(hc 0).trans h.c0,(hc 1).trans h.c1,(hc 2).trans h.c2,(hc 3).trans h.c3,(hc 4).trans h.c4,fun i=>(hf.frozen hlt hb).trans (h.fz i),h.src.fr hf hs,h.ns,h.le⟩
theorem tE {w w1 w2 w3:World} {b place part x:Nat} {nm:ByteArray} {sv v3:Value} {all:List Nat} (hf:Fr (fun k=>k=b) w.drew w1) (hr2:Rc w2 b nm sv all (place+4+x) part) (hf2:Fr (fun k=>k=b) w1 w2)
  (hown:w3.ownsRow w2.heap.size 5 1 v3 ((all.drop (place+4)).take x).length (cellsOf ((all.drop (place+4)).take x))) (hf3:Fr (fun _=>False) w2 w3) (hxl:x+(place+4)≤all.length) :
  ∃ ao cap,v3 = .slice ao x cap∧w3.ownsRow w.heap.size 5 1 (.slice ao x cap) x (cellsOf ((all.drop (place+4)).take x))∧Rc w3 b nm sv all (place+4+x) part∧Fr (fun k=>k=b) w w3:=by
 have hlen:((all.drop (place+4)).take x).length=x:=by simp;omega
 rw[hlen] at hown
 obtain⟨ao,cap,rfl⟩:=di hown
 have hf0:Fr (fun k=>k=b) w w1:=⟨hf.os,hf.tape,hf.output,hf.size,hf.block⟩
 refine⟨ao,cap,rfl,⟨hown.1,?_⟩,hr2.frame hf3 (fun h=>h) (fun _ _ _ _ _ h=>h),(hf0.trans hf2 (fun _ _ h=>h)).trans hf3 (fun _ _ h=>h.elim)⟩
 rcases hown.2 with h|⟨g,c,cur,e1,e2,e3⟩
 ·exact .inl h
 ·exact .inr ⟨g,c,cur,e1,Nat.le_trans (Nat.le_trans hf0.size hf2.size) e2,e3⟩
theorem rT (b place part x:Nat) (most:Int) (p0 p1:Addr) (nm:ByteArray) (sv:Value) (all:List Nat) (E:Nat→Addr) (w:World) (hb:9≤b) (hm:most<9223372036854775808) (hg:Gl w E) (h:Rc w b nm sv all place part)
  (hp0:w.cell? p0=some (.pointer (some ⟨b,0,none⟩))) (hp1:w.cell? p1=some (.int .i64 most)) (n0:p0.block≠b) (hx:val ((all.drop place).take 4)=x) (hn:4+place≤all.length) (hv:(x:Int)≤most) (hxl:x+(place+4)≤all.length) (hal:all.length≤140737488355328) :
  Calls Tryz.prog 223 #[.pointer (some p0),.pointer (some p1)] w fun e w'=>∃ ao cap,e = .returned (.slice ao x cap)∧w'.ownsRow w.heap.size 5 1 (.slice ao x cap) x (cellsOf ((all.drop (place+4)).take x))∧Rc w' b nm sv all (place+4+x) part∧Fr (fun k=>k=b) w w':=by
 have HC:=ae (fL b place part most nm sv all E w.drew hb hm hg.drew h.drew hn (by rw[hx];exact hv))
 rw[hx] at HC
 have HG:=ae hg
 have H:=ae h
 have hlt:b<w.heap.size:=ab h.c0
 have hp0lt:=ab hp0
 clear hg h hx
 go_enter Tryz.func223,Tryz.ntmps223
 go_wp2_with fail
 go_region_with (first
  | (go_at_call 221;refine(aa HC).mono ?_;rintro e w1 ⟨rfl,hr,hf⟩;have q0:w1.cell? p0=some (.pointer (some ⟨b,0,none⟩)):=(hf.cell hp0lt n0).trans hp0;have HR:=ae (And.intro hr hf);clear hr hf)
  | (go_at_call 220;refine(oA b x (place+4) part nm sv all E w1 ((aa HG).drew.gn (aa HR).2 hb) (aa HR).1 hxl).mono ?_;rintro e w2 ⟨v,rfl,hsrc,hr2,hf2⟩;have HR2:=ae (And.intro hsrc (And.intro hr2 hf2));clear hsrc hr2 hf2)
  | (go_at_call 116;refine(jG v ((all.drop (place+4)).take x) w2 (aa HR2).1 (by simp;omega)).mono ?_;rintro e w3 ⟨v3,rfl,hown,hf3⟩;have HR3:=ae (And.intro hown hf3);clear hown hf3))
 all_goals
  obtain⟨ao,cap,rfl,hres⟩:=tE (aa HR).2 (aa HR2).2.1 (aa HR2).2.2 (aa HR3).1 (aa HR3).2 hxl
  have HE:=ae hres
  clear hres
  go_wp2
  go_ret
  exact⟨ao,cap,rfl,aa HE⟩
end Go.Proofs.YtdcopmkgmbiikaaGreatDoor
