import Derived.Test.YtdcopmkgmbiikaaGreatDoorPg6
import Derived.Test.YtdcopmkgmbiikaaGreatDoorPg1
import Derived.Test.YtdcopmkgmbiikaaGreatDoorPg2
import Derived.Test.YtdcopmkgmbiikaaGreatDoorPg5
import Derived.Deep.CutRange
set_option maxRecDepth 100000
set_option maxHeartbeats 4000000
set_option linter.unusedSimpArgs false
namespace Go.Proofs.YtdcopmkgmbiikaaGreatDoor
open Go.RowKit
theorem vn (xo:Option Addr) (len xc:Nat) (place last fa fy k:Int) (nm0 fw nm:ByteArray) (w:World) (hy:fy≠0) (P:Int→Int→ByteArray→ByteArray→Int→Int→Nat→World→Prop)
  (hread:∀ w',Fr (fun _=>False) w w'→Calls Tryz.prog 125 #[aV xo len xc place last nm0 fw fa fy,.agg #[.int .i64 k,.int .u64 0,.string ⟨#[]⟩,.int .i64 0,.int .i64 0]] w' fun e w''=>∃ p' l' n' f' a' y' v sx sn sc,e = .returned (.tuple #[aV xo len xc p' l' n' f' a' y',.int .u64 (v:Nat),.slice sx sn sc])∧P p' l' n' f' a' y' v w''∧Fr (fun _=>False) w' w'')
  (hP:∀ p' l' n' f' a' y' v w1 w2,P p' l' n' f' a' y' v w1→Fr (fun k=>k=w.heap.size∨k=w.heap.size+1) w1 w2→P p' l' n' f' a' y' v w2) :
  Calls Tryz.prog 98 #[aV xo len xc place last nm0 fw fa fy,.string nm,.int .i64 k] w fun e w'=>∃ p' l' n' f' a' y' v,e = .returned (.tuple #[aV xo len xc p' l' n' f' a' y',.int .u64 (v:Nat)])∧P p' l' n' f' a' y' v w'∧Fr (fun _=>False) w w':=by
 have hd:(fy == 0)=false:=by simp [hy]
 have HG:=ae (fun w'=>dC xo len xc place last fa fy nm0 fw w')
 have HR:=ae hread
 have HP:=ae hP
 clear hread hP
 unfold aV at *
 go_enter Tryz.func98,Tryz.ntmps98
 go_wp2_with fail
 refine ((aa HG) _).mono ?_
 rintro e w1 ⟨rfl,rfl⟩
 rw [hd]
 go_wp2_with fail
 refine ((aa HR) _ (aO _ _ _ _)).mono ?_
 rintro e w5 ⟨p',l',n',f',a',y',v,sx,sn,sc,rfl,hp5,hf5⟩
 have hs3:=(oJ w (.cells #[.slice xo len xc,.int .i64 place,.int .i64 last,.string nm0,.string fw,.int .i64 fa,.int .i64 fy] 120) (.cells #[.slice none 0 0,.int .i64 0,.int .i64 0,.string ⟨#[]⟩,.string ⟨#[]⟩,.int .i64 0,.int .i64 0] 120) (.cells #[.slice xo len xc,.int .i64 place,.int .i64 last,.string nm0,.string fw,.int .i64 fa,.int .i64 fy] 120))
 have hb0:=(hf5.block w.heap.size (by rw [hs3.2.2];omega) (fun h=>h)).trans hs3.1
 have hb1:=(hf5.block (w.heap.size+1) (by rw [hs3.2.2];omega) (fun h=>h)).trans hs3.2.1
 have r0:w5.cell? ⟨w.heap.size,0,none⟩=some (.slice xo len xc):=by simp [World.cell?,hb0]
 have r1:w5.cell? ⟨w.heap.size,1,none⟩=some (.int .i64 place):=by simp [World.cell?,hb0]
 have r2:w5.cell? ⟨w.heap.size,2,none⟩=some (.int .i64 last):=by simp [World.cell?,hb0]
 have r3:w5.cell? ⟨w.heap.size,3,none⟩=some (.string nm0):=by simp [World.cell?,hb0]
 have r4:w5.cell? ⟨w.heap.size,4,none⟩=some (.string fw):=by simp [World.cell?,hb0]
 have r5:w5.cell? ⟨w.heap.size,5,none⟩=some (.int .i64 fa):=by simp [World.cell?,hb0]
 have r6:w5.cell? ⟨w.heap.size,6,none⟩=some (.int .i64 fy):=by simp [World.cell?,hb0]
 have o0:w5.cell? ⟨w.heap.size+1,0,none⟩=some (.slice none 0 0):=by simp [World.cell?,hb1]
 have o1:w5.cell? ⟨w.heap.size+1,1,none⟩=some (.int .i64 0):=by simp [World.cell?,hb1]
 have o2:w5.cell? ⟨w.heap.size+1,2,none⟩=some (.int .i64 0):=by simp [World.cell?,hb1]
 have o3:w5.cell? ⟨w.heap.size+1,3,none⟩=some (.string ⟨#[]⟩):=by simp [World.cell?,hb1]
 have o4:w5.cell? ⟨w.heap.size+1,4,none⟩=some (.string ⟨#[]⟩):=by simp [World.cell?,hb1]
 have o5:w5.cell? ⟨w.heap.size+1,5,none⟩=some (.int .i64 0):=by simp [World.cell?,hb1]
 have o6:w5.cell? ⟨w.heap.size+1,6,none⟩=some (.int .i64 0):=by simp [World.cell?,hb1]
 have rz:∀ i,w5.frozen? ⟨w.heap.size,i,none⟩=false:=fun i=>by simp [World.frozen?,hb0]
 have oz:∀ i,w5.frozen? ⟨w.heap.size+1,i,none⟩=false:=fun i=>by simp [World.frozen?,hb1]
 clear hs3 hb0 hb1
 have hlr:=ab r0
 have hlo:=ab o0
 have hf05:Fr (fun _=>False) w w5:=(aO _ _ _ _).trans hf5 (fun _ _ h=>h)
 have H5:=ae (And.intro hp5 hf05)
 clear hp5 hf5 hf05
 go_wp2_with fail
 refine bodyPost_ret (v:=.tuple #[.agg #[.slice xo len xc,.int .i64 p',.int .i64 l',.string n',.string f',.int .i64 a',.int .i64 y'],.int .u64 (v:Nat)]) (by simp [results,Tryz.results98,go_sem,o0,o1,o2,o3,o4,o5,o6]) rfl ?_
 exact ⟨p',l',n',f',a',y',v,rfl,(aa HP) _ _ _ _ _ _ _ _ _ (aa H5).1 (((((((((((((((Fr.refl (fun k=>k=w.heap.size∨k=w.heap.size+1) w5).setCell (.inl (.inl rfl)) _).setCell (.inl (.inl rfl)) _).setCell (.inl (.inl rfl)) _).setCell (.inl (.inl rfl)) _).setCell (.inl (.inl rfl)) _).setCell (.inl (.inl rfl)) _).setCell (.inl (.inl rfl)) _).setCell (.inl (.inr rfl)) _).setCell (.inl (.inr rfl)) _).setCell (.inl (.inr rfl)) _).setCell (.inl (.inr rfl)) _).setCell (.inl (.inr rfl)) _).setCell (.inl (.inr rfl)) _).setCell (.inl (.inr rfl)) _),(((((((((((((((aa H5).2).setCell (.inr (Nat.le_refl _)) _).setCell (.inr (Nat.le_refl _)) _).setCell (.inr (Nat.le_refl _)) _).setCell (.inr (Nat.le_refl _)) _).setCell (.inr (Nat.le_refl _)) _).setCell (.inr (Nat.le_refl _)) _).setCell (.inr (Nat.le_refl _)) _).setCell (.inr (Nat.le_succ _)) _).setCell (.inr (Nat.le_succ _)) _).setCell (.inr (Nat.le_succ _)) _).setCell (.inr (Nat.le_succ _)) _).setCell (.inr (Nat.le_succ _)) _).setCell (.inr (Nat.le_succ _)) _).setCell (.inr (Nat.le_succ _)) _⟩
theorem nh (q:Q) (nm:ByteArray) (k:Int) (xo:Option Addr) (xc last:Nat) (w:World) (hq:q.ok) (hx:Src w (.slice xo q.all.length xc) q.all) (hlc:q.all.length≤xc) (hl:q.all.length≤16777216) (hk:k=1∨k=4∨k=5) (hla:q.f=none→last=q.part) :
  Calls Tryz.prog 98 #[q.ref xo xc last,.string nm,.int .i64 k] w fun e w'=>∃ last':Nat,e = .returned (.tuple #[((q.ah nm).go k 0).1.ref xo xc last',.int .u64 (((q.ah nm).go k 0).2.1:Nat)])∧(((q.ah nm).go k 0).1.f=none→last'=((q.ah nm).go k 0).1.part)∧Fr (fun _=>False) w w':=by
 have hall:((q.ah nm).go k 0).1.all=q.all:=by rw [Q.go_all,Q.ba]
 have hrd:∀ w',Fr (fun _=>False) w w'→Calls Tryz.prog 125 #[(q.ah nm).ref xo xc last,.agg #[.int .i64 k,.int .u64 0,.string ⟨#[]⟩,.int .i64 0,.int .i64 0]] w' fun e w''=>∃ (p' l':Int) (n' f':ByteArray) (a' y':Int) (v:Nat) (sx:Option Addr) (sn sc:Nat),e = .returned (.tuple #[aV xo q.all.length xc p' l' n' f' a' y',.int .u64 (v:Nat),.slice sx sn sc])∧(∃ last':Nat,aV xo q.all.length xc p' l' n' f' a' y'=((q.ah nm).go k 0).1.ref xo xc last'∧v=((q.ah nm).go k 0).2.1∧(((q.ah nm).go k 0).1.f=none→last'=((q.ah nm).go k 0).1.part))∧Fr (fun _=>False) w' w'':=fun w' hf=>by
  refine (ky (q.ah nm) ⟨k,0,ByteArray.empty,0,0⟩ xo xc last w' (Q.cP hq nm) (by rw [Q.ba];exact hx.fr hf (fun _ _ _ _ _ h=>h)) (by rw [Q.ba];exact hlc) (by rw [Q.ba];exact hl) (by rcases hk with rfl|rfl|rfl <;> decide) (fun h=>by rcases hk with rfl|rfl|rfl <;> simp at h) (by show (0:Int)<9223372036854775808;decide) (by rw [Q.fP,Q.ic];exact hla)).mono ?_
  rintro e w'' ⟨last',v,rfl,hs,_,hl',hf'⟩
  obtain ⟨sx,sc,rfl⟩:=hs.form
  have e3:((q.ah nm).go k 0).1.ref xo xc last'=aV xo q.all.length xc (((q.ah nm).go k 0).1.at_:Nat) (last':Nat) ((q.ah nm).go k 0).1.nm (bo ((q.ah nm).go k 0).1.f).1 ((bo ((q.ah nm).go k 0).1.f).2.1:Nat) ((bo ((q.ah nm).go k 0).1.f).2.2:Nat):=by
   unfold Q.ref;rw [hall]
  refine ⟨_,_,_,_,_,_,_,sx,((q.ah nm).go k 0).2.2.length,sc,?_,⟨last',e3.symm,rfl,hl'⟩,hf'⟩
  rw [← e3]
  rfl
 have fin:∀ (e:Ending) (w':World),(∃ (p' l':Int) (n' f':ByteArray) (a' y':Int) (v:Nat),e = .returned (.tuple #[aV xo q.all.length xc p' l' n' f' a' y',.int .u64 (v:Nat)])∧(∃ last':Nat,aV xo q.all.length xc p' l' n' f' a' y'=((q.ah nm).go k 0).1.ref xo xc last'∧v=((q.ah nm).go k 0).2.1∧(((q.ah nm).go k 0).1.f=none→last'=((q.ah nm).go k 0).1.part))∧Fr (fun _=>False) w w')→∃ last':Nat,e = .returned (.tuple #[((q.ah nm).go k 0).1.ref xo xc last',.int .u64 (((q.ah nm).go k 0).2.1:Nat)])∧(((q.ah nm).go k 0).1.f=none→last'=((q.ah nm).go k 0).1.part)∧Fr (fun _=>False) w w':=by
  rintro e w' ⟨p',l',n',f',a',y',v,rfl,⟨last',h1,rfl,h2⟩,hf⟩
  exact ⟨last',by rw [h1],h2,hf⟩
 by_cases hf:q.f=none
 ·have e1:(q.ah nm).ref xo xc last=aV xo q.all.length xc (q.at_:Nat) (last:Nat) nm (bo q.f).1 ((bo q.f).2.1:Nat) 0:=by
   unfold Q.ah;rw [if_pos hf];unfold Q.named Q.ref Q.at_;rw [hf];rfl
  have e2:q.ref xo xc last=aV xo q.all.length xc (q.at_:Nat) (last:Nat) q.nm (bo q.f).1 ((bo q.f).2.1:Nat) 0:=by
   unfold Q.ref;rw [hf];rfl
  rw [e1] at hrd
  rw [e2]
  exact (ya xo q.all.length xc _ _ _ k q.nm _ nm w (fun p' l' n' f' a' y' v _=>∃ last':Nat,aV xo q.all.length xc p' l' n' f' a' y'=((q.ah nm).go k 0).1.ref xo xc last'∧v=((q.ah nm).go k 0).2.1∧(((q.ah nm).go k 0).1.f=none→last'=((q.ah nm).go k 0).1.part)) hrd (fun _ _ _ _ _ _ _ _ _ h _=>h)).mono fin
 ·have e1:q.ah nm=q:=by unfold Q.ah;rw [if_neg hf]
  have hy:((bo q.f).2.2:Int)≠0:=fun e=>hf ((gx hq).1 (by omega))
  have hrd':=hrd
  rw [show (q.ah nm).ref xo xc last=q.ref xo xc last by rw [e1]] at hrd'
  exact (vn xo q.all.length xc _ _ _ _ k q.nm _ nm w hy (fun p' l' n' f' a' y' v _=>∃ last':Nat,aV xo q.all.length xc p' l' n' f' a' y'=((q.ah nm).go k 0).1.ref xo xc last'∧v=((q.ah nm).go k 0).2.1∧(((q.ah nm).go k 0).1.f=none→last'=((q.ah nm).go k 0).1.part)) hrd' (fun _ _ _ _ _ _ _ _ _ h _=>h)).mono fin
theorem xG (xo:Option Addr) (len xc:Nat) (place last fa k:Int) (nm0 fw nm:ByteArray) (w:World) (P:Int→Int→ByteArray→ByteArray→Int→Int→Nat→World→Prop)
  (hread:∀ w',Fr (fun _=>False) w w'→Calls Tryz.prog 125 #[aV xo len xc place last nm fw fa 0,.agg #[.int .i64 7,.int .u64 0,.string ⟨#[]⟩,.int .i64 0,.int .i64 k]] w' fun e w''=>∃ p' l' n' f' a' y' v sx sn sc,e = .returned (.tuple #[aV xo len xc p' l' n' f' a' y',.int .u64 (v:Nat),.slice sx sn sc])∧v<4294967296∧P p' l' n' f' a' y' v w''∧Fr (fun _=>False) w' w'')
  (hP:∀ p' l' n' f' a' y' v w1 w2,P p' l' n' f' a' y' v w1→Fr (fun k=>k=w.heap.size∨k=w.heap.size+1) w1 w2→P p' l' n' f' a' y' v w2) :
  Calls Tryz.prog 105 #[aV xo len xc place last nm0 fw fa 0,.string nm,.int .i64 k] w fun e w'=>∃ p' l' n' f' a' y' v,e = .returned (.tuple #[aV xo len xc p' l' n' f' a' y',.int .i64 (v:Nat)])∧P p' l' n' f' a' y' v w'∧Fr (fun _=>False) w w':=by
 have hd:((0:Int) == 0)=true:=rfl
 have HG:=ae (fun w'=>dC xo len xc place last fa 0 nm0 fw w')
 have HR:=ae hread
 have HP:=ae hP
 clear hread hP
 unfold aV at *
 go_enter Tryz.func105,Tryz.ntmps105
 go_wp2_with fail
 refine ((aa HG) _).mono ?_
 rintro e w1 ⟨rfl,rfl⟩
 rw [hd]
 go_wp2_with fail
 refine ((aa HR) _ (aO _ _ _ _)).mono ?_
 rintro e w5 ⟨p',l',n',f',a',y',v,sx,sn,sc,rfl,hv,hp5,hf5⟩
 have hs3:=(oJ w (.cells #[.slice xo len xc,.int .i64 place,.int .i64 last,.string nm,.string fw,.int .i64 fa,.int .i64 0] 120) (.cells #[.slice none 0 0,.int .i64 0,.int .i64 0,.string ⟨#[]⟩,.string ⟨#[]⟩,.int .i64 0,.int .i64 0] 120) (.cells #[.slice xo len xc,.int .i64 place,.int .i64 last,.string nm0,.string fw,.int .i64 fa,.int .i64 0] 120))
 have hb0:=(hf5.block w.heap.size (by rw [hs3.2.2];omega) (fun h=>h)).trans hs3.1
 have hb1:=(hf5.block (w.heap.size+1) (by rw [hs3.2.2];omega) (fun h=>h)).trans hs3.2.1
 have r0:w5.cell? ⟨w.heap.size,0,none⟩=some (.slice xo len xc):=by simp [World.cell?,hb0]
 have r1:w5.cell? ⟨w.heap.size,1,none⟩=some (.int .i64 place):=by simp [World.cell?,hb0]
 have r2:w5.cell? ⟨w.heap.size,2,none⟩=some (.int .i64 last):=by simp [World.cell?,hb0]
 have r3:w5.cell? ⟨w.heap.size,3,none⟩=some (.string nm):=by simp [World.cell?,hb0]
 have r4:w5.cell? ⟨w.heap.size,4,none⟩=some (.string fw):=by simp [World.cell?,hb0]
 have r5:w5.cell? ⟨w.heap.size,5,none⟩=some (.int .i64 fa):=by simp [World.cell?,hb0]
 have r6:w5.cell? ⟨w.heap.size,6,none⟩=some (.int .i64 0):=by simp [World.cell?,hb0]
 have o0:w5.cell? ⟨w.heap.size+1,0,none⟩=some (.slice none 0 0):=by simp [World.cell?,hb1]
 have o1:w5.cell? ⟨w.heap.size+1,1,none⟩=some (.int .i64 0):=by simp [World.cell?,hb1]
 have o2:w5.cell? ⟨w.heap.size+1,2,none⟩=some (.int .i64 0):=by simp [World.cell?,hb1]
 have o3:w5.cell? ⟨w.heap.size+1,3,none⟩=some (.string ⟨#[]⟩):=by simp [World.cell?,hb1]
 have o4:w5.cell? ⟨w.heap.size+1,4,none⟩=some (.string ⟨#[]⟩):=by simp [World.cell?,hb1]
 have o5:w5.cell? ⟨w.heap.size+1,5,none⟩=some (.int .i64 0):=by simp [World.cell?,hb1]
 have o6:w5.cell? ⟨w.heap.size+1,6,none⟩=some (.int .i64 0):=by simp [World.cell?,hb1]
 have rz:∀ i,w5.frozen? ⟨w.heap.size,i,none⟩=false:=fun i=>by simp [World.frozen?,hb0]
 have oz:∀ i,w5.frozen? ⟨w.heap.size+1,i,none⟩=false:=fun i=>by simp [World.frozen?,hb1]
 clear hs3 hb0 hb1
 have hlr:=ab r0
 have hlo:=ab o0
 have hf05:Fr (fun _=>False) w w5:=(aO _ _ _ _).trans hf5 (fun _ _ h=>h)
 have H5:=ae (And.intro hp5 hf05)
 clear hp5 hf5 hf05
 go_wp2_with fail
 refine bodyPost_ret (v:=.tuple #[.agg #[.slice xo len xc,.int .i64 p',.int .i64 l',.string n',.string f',.int .i64 a',.int .i64 y'],.int .i64 (v:Nat)]) (by simp [results,Tryz.results105,go_sem,o0,o1,o2,o3,o4,o5,o6]) rfl ?_
 exact ⟨p',l',n',f',a',y',v,rfl,(aa HP) _ _ _ _ _ _ _ _ _ (aa H5).1 (((((((((((((((Fr.refl (fun k=>k=w.heap.size∨k=w.heap.size+1) w5).setCell (.inl (.inl rfl)) _).setCell (.inl (.inl rfl)) _).setCell (.inl (.inl rfl)) _).setCell (.inl (.inl rfl)) _).setCell (.inl (.inl rfl)) _).setCell (.inl (.inl rfl)) _).setCell (.inl (.inl rfl)) _).setCell (.inl (.inr rfl)) _).setCell (.inl (.inr rfl)) _).setCell (.inl (.inr rfl)) _).setCell (.inl (.inr rfl)) _).setCell (.inl (.inr rfl)) _).setCell (.inl (.inr rfl)) _).setCell (.inl (.inr rfl)) _),(((((((((((((((aa H5).2).setCell (.inr (Nat.le_refl _)) _).setCell (.inr (Nat.le_refl _)) _).setCell (.inr (Nat.le_refl _)) _).setCell (.inr (Nat.le_refl _)) _).setCell (.inr (Nat.le_refl _)) _).setCell (.inr (Nat.le_refl _)) _).setCell (.inr (Nat.le_refl _)) _).setCell (.inr (Nat.le_succ _)) _).setCell (.inr (Nat.le_succ _)) _).setCell (.inr (Nat.le_succ _)) _).setCell (.inr (Nat.le_succ _)) _).setCell (.inr (Nat.le_succ _)) _).setCell (.inr (Nat.le_succ _)) _).setCell (.inr (Nat.le_succ _)) _⟩
theorem uQ (xo:Option Addr) (len xc:Nat) (place last fa fy k:Int) (nm0 fw nm:ByteArray) (w:World) (hy:fy≠0) (P:Int→Int→ByteArray→ByteArray→Int→Int→Nat→World→Prop)
  (hread:∀ w',Fr (fun _=>False) w w'→Calls Tryz.prog 125 #[aV xo len xc place last nm0 fw fa fy,.agg #[.int .i64 7,.int .u64 0,.string ⟨#[]⟩,.int .i64 0,.int .i64 k]] w' fun e w''=>∃ p' l' n' f' a' y' v sx sn sc,e = .returned (.tuple #[aV xo len xc p' l' n' f' a' y',.int .u64 (v:Nat),.slice sx sn sc])∧v<4294967296∧P p' l' n' f' a' y' v w''∧Fr (fun _=>False) w' w'')
  (hP:∀ p' l' n' f' a' y' v w1 w2,P p' l' n' f' a' y' v w1→Fr (fun k=>k=w.heap.size∨k=w.heap.size+1) w1 w2→P p' l' n' f' a' y' v w2) :
  Calls Tryz.prog 105 #[aV xo len xc place last nm0 fw fa fy,.string nm,.int .i64 k] w fun e w'=>∃ p' l' n' f' a' y' v,e = .returned (.tuple #[aV xo len xc p' l' n' f' a' y',.int .i64 (v:Nat)])∧P p' l' n' f' a' y' v w'∧Fr (fun _=>False) w w':=by
 have hd:(fy == 0)=false:=by simp [hy]
 have HG:=ae (fun w'=>dC xo len xc place last fa fy nm0 fw w')
 have HR:=ae hread
 have HP:=ae hP
 clear hread hP
 unfold aV at *
 go_enter Tryz.func105,Tryz.ntmps105
 go_wp2_with fail
 refine ((aa HG) _).mono ?_
 rintro e w1 ⟨rfl,rfl⟩
 rw [hd]
 go_wp2_with fail
 refine ((aa HR) _ (aO _ _ _ _)).mono ?_
 rintro e w5 ⟨p',l',n',f',a',y',v,sx,sn,sc,rfl,hv,hp5,hf5⟩
 have hs3:=(oJ w (.cells #[.slice xo len xc,.int .i64 place,.int .i64 last,.string nm0,.string fw,.int .i64 fa,.int .i64 fy] 120) (.cells #[.slice none 0 0,.int .i64 0,.int .i64 0,.string ⟨#[]⟩,.string ⟨#[]⟩,.int .i64 0,.int .i64 0] 120) (.cells #[.slice xo len xc,.int .i64 place,.int .i64 last,.string nm0,.string fw,.int .i64 fa,.int .i64 fy] 120))
 have hb0:=(hf5.block w.heap.size (by rw [hs3.2.2];omega) (fun h=>h)).trans hs3.1
 have hb1:=(hf5.block (w.heap.size+1) (by rw [hs3.2.2];omega) (fun h=>h)).trans hs3.2.1
 have r0:w5.cell? ⟨w.heap.size,0,none⟩=some (.slice xo len xc):=by simp [World.cell?,hb0]
 have r1:w5.cell? ⟨w.heap.size,1,none⟩=some (.int .i64 place):=by simp [World.cell?,hb0]
 have r2:w5.cell? ⟨w.heap.size,2,none⟩=some (.int .i64 last):=by simp [World.cell?,hb0]
 have r3:w5.cell? ⟨w.heap.size,3,none⟩=some (.string nm0):=by simp [World.cell?,hb0]
 have r4:w5.cell? ⟨w.heap.size,4,none⟩=some (.string fw):=by simp [World.cell?,hb0]
 have r5:w5.cell? ⟨w.heap.size,5,none⟩=some (.int .i64 fa):=by simp [World.cell?,hb0]
 have r6:w5.cell? ⟨w.heap.size,6,none⟩=some (.int .i64 fy):=by simp [World.cell?,hb0]
 have o0:w5.cell? ⟨w.heap.size+1,0,none⟩=some (.slice none 0 0):=by simp [World.cell?,hb1]
 have o1:w5.cell? ⟨w.heap.size+1,1,none⟩=some (.int .i64 0):=by simp [World.cell?,hb1]
 have o2:w5.cell? ⟨w.heap.size+1,2,none⟩=some (.int .i64 0):=by simp [World.cell?,hb1]
 have o3:w5.cell? ⟨w.heap.size+1,3,none⟩=some (.string ⟨#[]⟩):=by simp [World.cell?,hb1]
 have o4:w5.cell? ⟨w.heap.size+1,4,none⟩=some (.string ⟨#[]⟩):=by simp [World.cell?,hb1]
 have o5:w5.cell? ⟨w.heap.size+1,5,none⟩=some (.int .i64 0):=by simp [World.cell?,hb1]
 have o6:w5.cell? ⟨w.heap.size+1,6,none⟩=some (.int .i64 0):=by simp [World.cell?,hb1]
 have rz:∀ i,w5.frozen? ⟨w.heap.size,i,none⟩=false:=fun i=>by simp [World.frozen?,hb0]
 have oz:∀ i,w5.frozen? ⟨w.heap.size+1,i,none⟩=false:=fun i=>by simp [World.frozen?,hb1]
 clear hs3 hb0 hb1
 have hlr:=ab r0
 have hlo:=ab o0
 have hf05:Fr (fun _=>False) w w5:=(aO _ _ _ _).trans hf5 (fun _ _ h=>h)
 have H5:=ae (And.intro hp5 hf05)
 clear hp5 hf5 hf05
 go_wp2_with fail
 refine bodyPost_ret (v:=.tuple #[.agg #[.slice xo len xc,.int .i64 p',.int .i64 l',.string n',.string f',.int .i64 a',.int .i64 y'],.int .i64 (v:Nat)]) (by simp [results,Tryz.results105,go_sem,o0,o1,o2,o3,o4,o5,o6]) rfl ?_
 exact ⟨p',l',n',f',a',y',v,rfl,(aa HP) _ _ _ _ _ _ _ _ _ (aa H5).1 (((((((((((((((Fr.refl (fun k=>k=w.heap.size∨k=w.heap.size+1) w5).setCell (.inl (.inl rfl)) _).setCell (.inl (.inl rfl)) _).setCell (.inl (.inl rfl)) _).setCell (.inl (.inl rfl)) _).setCell (.inl (.inl rfl)) _).setCell (.inl (.inl rfl)) _).setCell (.inl (.inl rfl)) _).setCell (.inl (.inr rfl)) _).setCell (.inl (.inr rfl)) _).setCell (.inl (.inr rfl)) _).setCell (.inl (.inr rfl)) _).setCell (.inl (.inr rfl)) _).setCell (.inl (.inr rfl)) _).setCell (.inl (.inr rfl)) _),(((((((((((((((aa H5).2).setCell (.inr (Nat.le_refl _)) _).setCell (.inr (Nat.le_refl _)) _).setCell (.inr (Nat.le_refl _)) _).setCell (.inr (Nat.le_refl _)) _).setCell (.inr (Nat.le_refl _)) _).setCell (.inr (Nat.le_refl _)) _).setCell (.inr (Nat.le_refl _)) _).setCell (.inr (Nat.le_succ _)) _).setCell (.inr (Nat.le_succ _)) _).setCell (.inr (Nat.le_succ _)) _).setCell (.inr (Nat.le_succ _)) _).setCell (.inr (Nat.le_succ _)) _).setCell (.inr (Nat.le_succ _)) _).setCell (.inr (Nat.le_succ _)) _⟩
theorem zh (q:Q) (nm:ByteArray) (k:Int) (xo:Option Addr) (xc last:Nat) (w:World) (hq:q.ok) (hx:Src w (.slice xo q.all.length xc) q.all) (hlc:q.all.length≤xc) (hl:q.all.length≤16777216) (hk:k<9223372036854775808) (hla:q.f=none→last=q.part) :
  Calls Tryz.prog 105 #[q.ref xo xc last,.string nm,.int .i64 k] w fun e w'=>∃ last':Nat,e = .returned (.tuple #[((q.ah nm).go 7 k).1.ref xo xc last',.int .i64 (((q.ah nm).go 7 k).2.1:Nat)])∧(((q.ah nm).go 7 k).1.f=none→last'=((q.ah nm).go 7 k).1.part)∧Fr (fun _=>False) w w':=by
 have hall:((q.ah nm).go 7 k).1.all=q.all:=by rw [Q.go_all,Q.ba]
 have hrd:∀ w',Fr (fun _=>False) w w'→Calls Tryz.prog 125 #[(q.ah nm).ref xo xc last,.agg #[.int .i64 7,.int .u64 0,.string ⟨#[]⟩,.int .i64 0,.int .i64 k]] w' fun e w''=>∃ (p' l':Int) (n' f':ByteArray) (a' y':Int) (v:Nat) (sx:Option Addr) (sn sc:Nat),e = .returned (.tuple #[aV xo q.all.length xc p' l' n' f' a' y',.int .u64 (v:Nat),.slice sx sn sc])∧v<4294967296∧(∃ last':Nat,aV xo q.all.length xc p' l' n' f' a' y'=((q.ah nm).go 7 k).1.ref xo xc last'∧v=((q.ah nm).go 7 k).2.1∧(((q.ah nm).go 7 k).1.f=none→last'=((q.ah nm).go 7 k).1.part))∧Fr (fun _=>False) w' w'':=fun w' hf=>by
  refine (ky (q.ah nm) ⟨7,0,ByteArray.empty,0,k⟩ xo xc last w' (Q.cP hq nm) (by rw [Q.ba];exact hx.fr hf (fun _ _ _ _ _ h=>h)) (by rw [Q.ba];exact hlc) (by rw [Q.ba];exact hl) (by show (7:Int)∈kinds;decide) (fun h=>by simp at h) hk (by rw [Q.fP,Q.ic];exact hla)).mono ?_
  rintro e w'' ⟨last',v,rfl,hs,_,hl',hf'⟩
  obtain ⟨sx,sc,rfl⟩:=hs.form
  have e3:((q.ah nm).go 7 k).1.ref xo xc last'=aV xo q.all.length xc (((q.ah nm).go 7 k).1.at_:Nat) (last':Nat) ((q.ah nm).go 7 k).1.nm (bo ((q.ah nm).go 7 k).1.f).1 ((bo ((q.ah nm).go 7 k).1.f).2.1:Nat) ((bo ((q.ah nm).go 7 k).1.f).2.2:Nat):=by
   unfold Q.ref;rw [hall]
  refine ⟨_,_,_,_,_,_,_,sx,((q.ah nm).go 7 k).2.2.length,sc,?_,(q.ah nm).go_lt 7 k,⟨last',e3.symm,rfl,hl'⟩,hf'⟩
  rw [← e3]
  rfl
 have fin:∀ (e:Ending) (w':World),(∃ (p' l':Int) (n' f':ByteArray) (a' y':Int) (v:Nat),e = .returned (.tuple #[aV xo q.all.length xc p' l' n' f' a' y',.int .i64 (v:Nat)])∧(∃ last':Nat,aV xo q.all.length xc p' l' n' f' a' y'=((q.ah nm).go 7 k).1.ref xo xc last'∧v=((q.ah nm).go 7 k).2.1∧(((q.ah nm).go 7 k).1.f=none→last'=((q.ah nm).go 7 k).1.part))∧Fr (fun _=>False) w w')→∃ last':Nat,e = .returned (.tuple #[((q.ah nm).go 7 k).1.ref xo xc last',.int .i64 (((q.ah nm).go 7 k).2.1:Nat)])∧(((q.ah nm).go 7 k).1.f=none→last'=((q.ah nm).go 7 k).1.part)∧Fr (fun _=>False) w w':=by
  rintro e w' ⟨p',l',n',f',a',y',v,rfl,⟨last',h1,rfl,h2⟩,hf⟩
  exact ⟨last',by rw [h1],h2,hf⟩
 by_cases hf:q.f=none
 ·have e1:(q.ah nm).ref xo xc last=aV xo q.all.length xc (q.at_:Nat) (last:Nat) nm (bo q.f).1 ((bo q.f).2.1:Nat) 0:=by
   unfold Q.ah;rw [if_pos hf];unfold Q.named Q.ref Q.at_;rw [hf];rfl
  have e2:q.ref xo xc last=aV xo q.all.length xc (q.at_:Nat) (last:Nat) q.nm (bo q.f).1 ((bo q.f).2.1:Nat) 0:=by
   unfold Q.ref;rw [hf];rfl
  rw [e1] at hrd
  rw [e2]
  exact (xG xo q.all.length xc _ _ _ k q.nm _ nm w (fun p' l' n' f' a' y' v _=>∃ last':Nat,aV xo q.all.length xc p' l' n' f' a' y'=((q.ah nm).go 7 k).1.ref xo xc last'∧v=((q.ah nm).go 7 k).2.1∧(((q.ah nm).go 7 k).1.f=none→last'=((q.ah nm).go 7 k).1.part)) hrd (fun _ _ _ _ _ _ _ _ _ h _=>h)).mono fin
 ·have e1:q.ah nm=q:=by unfold Q.ah;rw [if_neg hf]
  have hy:((bo q.f).2.2:Int)≠0:=fun e=>hf ((gx hq).1 (by omega))
  have hrd':=hrd
  rw [show (q.ah nm).ref xo xc last=q.ref xo xc last by rw [e1]] at hrd'
  exact (uQ xo q.all.length xc _ _ _ _ k q.nm _ nm w hy (fun p' l' n' f' a' y' v _=>∃ last':Nat,aV xo q.all.length xc p' l' n' f' a' y'=((q.ah nm).go 7 k).1.ref xo xc last'∧v=((q.ah nm).go 7 k).2.1∧(((q.ah nm).go 7 k).1.f=none→last'=((q.ah nm).go 7 k).1.part)) hrd' (fun _ _ _ _ _ _ _ _ _ h _=>h)).mono fin
theorem uL (xo:Option Addr) (len xc:Nat) (place last fa least most:Int) (nm0 fw nm:ByteArray) (w:World) (P P2:Int→Int→ByteArray→ByteArray→Int→Int→Option Addr→Nat→Nat→World→Prop)
  (hread:∀ w',Fr (fun _=>False) w w'→w.heap.size+2≤w'.heap.size→Calls Tryz.prog 125 #[aV xo len xc place last nm fw fa 0,.agg #[.int .i64 6,.int .u64 0,.string ⟨#[]⟩,.int .i64 0,.int .i64 most]] w' fun e w''=>∃ p' l' n' f' a' y' v sx sn sc,e = .returned (.tuple #[aV xo len xc p' l' n' f' a' y',.int .u64 (v:Nat),.slice sx sn sc])∧sn<9223372036854775808∧P p' l' n' f' a' y' sx sn sc w''∧Fr (fun _=>False) w' w'')
  (hP:∀ p' l' n' f' a' y' sx sn sc w1 w2,P p' l' n' f' a' y' sx sn sc w1→Fr (fun k=>k=w.heap.size∨k=w.heap.size+1) w1 w2→P p' l' n' f' a' y' sx sn sc w2)
  (hP2:∀ p' l' n' f' a' y' sx sn sc w1 w2,P2 p' l' n' f' a' y' sx sn sc w1→Fr (fun k=>k=w.heap.size∨k=w.heap.size+1) w1 w2→P2 p' l' n' f' a' y' sx sn sc w2)
  (hbad:∀ p' l' n' f' a' y' sx sn sc w1,P p' l' n' f' a' y' sx sn sc w1→Calls Tryz.prog 99 #[aV xo len xc p' l' n' f' a' y',.bool (decide ((sn:Int)<least)),.int .i64 4] w1 fun e w2=>∃ p2 l2 n2 f2 a2 y2,e = .returned (aV xo len xc p2 l2 n2 f2 a2 y2)∧P2 p2 l2 n2 f2 a2 y2 sx sn sc w2∧Fr (fun _=>False) w1 w2) :
  Calls Tryz.prog 103 #[aV xo len xc place last nm0 fw fa 0,.string nm,.int .i64 least,.int .i64 most] w fun e w'=>∃ p' l' n' f' a' y' sx sn sc,e = .returned (.tuple #[aV xo len xc p' l' n' f' a' y',.slice sx sn sc])∧P2 p' l' n' f' a' y' sx sn sc w'∧Fr (fun _=>False) w w':=by
 have hd:((0:Int) == 0)=true:=rfl
 have HG:=ae (fun w'=>dC xo len xc place last fa 0 nm0 fw w')
 have HR:=ae hread
 have HP:=ae hP
 have HB:=ae hbad
 have HP2:=ae hP2
 clear hread hP hbad hP2
 unfold aV at *
 go_enter Tryz.func103,Tryz.ntmps103
 go_wp2_with fail
 refine ((aa HG) _).mono ?_
 rintro e w1 ⟨rfl,rfl⟩
 rw [hd]
 go_wp2_with fail
 refine ((aa HR) _ (aO _ _ _ _) (by simp)).mono ?_
 rintro e w5 ⟨p',l',n',f',a',y',v,sx,sn,sc,rfl,hsn,hp5,hf5⟩
 have hs3:=(oJ w (.cells #[.slice xo len xc,.int .i64 place,.int .i64 last,.string nm,.string fw,.int .i64 fa,.int .i64 0] 120) (.cells #[.slice none 0 0,.int .i64 0,.int .i64 0,.string ⟨#[]⟩,.string ⟨#[]⟩,.int .i64 0,.int .i64 0] 120) (.cells #[.slice xo len xc,.int .i64 place,.int .i64 last,.string nm0,.string fw,.int .i64 fa,.int .i64 0] 120))
 have hb0:=(hf5.block w.heap.size (by rw [hs3.2.2];omega) (fun h=>h)).trans hs3.1
 have hb1:=(hf5.block (w.heap.size+1) (by rw [hs3.2.2];omega) (fun h=>h)).trans hs3.2.1
 have r0:w5.cell? ⟨w.heap.size,0,none⟩=some (.slice xo len xc):=by simp [World.cell?,hb0]
 have r1:w5.cell? ⟨w.heap.size,1,none⟩=some (.int .i64 place):=by simp [World.cell?,hb0]
 have r2:w5.cell? ⟨w.heap.size,2,none⟩=some (.int .i64 last):=by simp [World.cell?,hb0]
 have r3:w5.cell? ⟨w.heap.size,3,none⟩=some (.string nm):=by simp [World.cell?,hb0]
 have r4:w5.cell? ⟨w.heap.size,4,none⟩=some (.string fw):=by simp [World.cell?,hb0]
 have r5:w5.cell? ⟨w.heap.size,5,none⟩=some (.int .i64 fa):=by simp [World.cell?,hb0]
 have r6:w5.cell? ⟨w.heap.size,6,none⟩=some (.int .i64 0):=by simp [World.cell?,hb0]
 have o0:w5.cell? ⟨w.heap.size+1,0,none⟩=some (.slice none 0 0):=by simp [World.cell?,hb1]
 have o1:w5.cell? ⟨w.heap.size+1,1,none⟩=some (.int .i64 0):=by simp [World.cell?,hb1]
 have o2:w5.cell? ⟨w.heap.size+1,2,none⟩=some (.int .i64 0):=by simp [World.cell?,hb1]
 have o3:w5.cell? ⟨w.heap.size+1,3,none⟩=some (.string ⟨#[]⟩):=by simp [World.cell?,hb1]
 have o4:w5.cell? ⟨w.heap.size+1,4,none⟩=some (.string ⟨#[]⟩):=by simp [World.cell?,hb1]
 have o5:w5.cell? ⟨w.heap.size+1,5,none⟩=some (.int .i64 0):=by simp [World.cell?,hb1]
 have o6:w5.cell? ⟨w.heap.size+1,6,none⟩=some (.int .i64 0):=by simp [World.cell?,hb1]
 have rz:∀ i,w5.frozen? ⟨w.heap.size,i,none⟩=false:=fun i=>by simp [World.frozen?,hb0]
 have oz:∀ i,w5.frozen? ⟨w.heap.size+1,i,none⟩=false:=fun i=>by simp [World.frozen?,hb1]
 have HB1:=ae hb1
 clear hs3 hb0 hb1
 have hlr:=ab r0
 have hlo:=ab o0
 have hf05:Fr (fun _=>False) w w5:=(aO _ _ _ _).trans hf5 (fun _ _ h=>h)
 have H5:=ae (And.intro hp5 hf05)
 clear hp5 hf5 hf05
 go_wp2_with fail
 obtain ⟨W6,hW6⟩:∃ W6,((((((w5.setCell ⟨w.heap.size,0,none⟩ (.slice xo len xc)).setCell ⟨w.heap.size,1,none⟩ (.int .i64 p')).setCell ⟨w.heap.size,2,none⟩ (.int .i64 l')).setCell ⟨w.heap.size,3,none⟩ (.string n')).setCell ⟨w.heap.size,4,none⟩ (.string f')).setCell ⟨w.heap.size,5,none⟩ (.int .i64 a')).setCell ⟨w.heap.size,6,none⟩ (.int .i64 y')=W6:=⟨_,rfl⟩
 have hb6:W6.heap[w.heap.size+1]?=some (.cells #[.slice none 0 0,.int .i64 0,.int .i64 0,.string ⟨#[]⟩,.string ⟨#[]⟩,.int .i64 0,.int .i64 0] 120):=by
  rw [← hW6,Below.heap_setCell _ _ _ _ (by show w.heap.size+1≠w.heap.size;omega),Below.heap_setCell _ _ _ _ (by show w.heap.size+1≠w.heap.size;omega),Below.heap_setCell _ _ _ _ (by show w.heap.size+1≠w.heap.size;omega),Below.heap_setCell _ _ _ _ (by show w.heap.size+1≠w.heap.size;omega),Below.heap_setCell _ _ _ _ (by show w.heap.size+1≠w.heap.size;omega),Below.heap_setCell _ _ _ _ (by show w.heap.size+1≠w.heap.size;omega),Below.heap_setCell _ _ _ _ (by show w.heap.size+1≠w.heap.size;omega)]
  exact aa HB1
 have hf56:Fr (fun k=>k=w.heap.size∨k=w.heap.size+1) w5 W6:=by rw [← hW6];exact (((((((Fr.refl (fun k=>k=w.heap.size∨k=w.heap.size+1) w5).setCell (.inl (.inl rfl)) _).setCell (.inl (.inl rfl)) _).setCell (.inl (.inl rfl)) _).setCell (.inl (.inl rfl)) _).setCell (.inl (.inl rfl)) _).setCell (.inl (.inl rfl)) _).setCell (.inl (.inl rfl)) _
 have hf06:Fr (fun _=>False) w W6:=by rw [← hW6];exact ((((((((aa H5).2).setCell (.inr (Nat.le_refl _)) _).setCell (.inr (Nat.le_refl _)) _).setCell (.inr (Nat.le_refl _)) _).setCell (.inr (Nat.le_refl _)) _).setCell (.inr (Nat.le_refl _)) _).setCell (.inr (Nat.le_refl _)) _).setCell (.inr (Nat.le_refl _)) _
 have HX:=ae ((aa HB) _ _ _ _ _ _ _ _ _ W6 ((aa HP) _ _ _ _ _ _ _ _ _ _ _ (aa H5).1 hf56))
 rw [hW6]
 refine (aa HX).mono ?_
 rintro e w7 ⟨p2,l2,n2,f2,a2,y2,rfl,hp7,hf7⟩
 have hl6:w.heap.size+1<W6.heap.size:=by
  rcases Nat.lt_or_ge (w.heap.size+1) W6.heap.size with hx|hx
  ·exact hx
  ·rw [Array.getElem?_eq_none hx] at hb6;cases hb6
 have hb7:=(hf7.block (w.heap.size+1) hl6 (fun h=>h)).trans hb6
 have z0:w7.cell? ⟨w.heap.size+1,0,none⟩=some (.slice none 0 0):=by simp [World.cell?,hb7]
 have z1:w7.cell? ⟨w.heap.size+1,1,none⟩=some (.int .i64 0):=by simp [World.cell?,hb7]
 have z2:w7.cell? ⟨w.heap.size+1,2,none⟩=some (.int .i64 0):=by simp [World.cell?,hb7]
 have z3:w7.cell? ⟨w.heap.size+1,3,none⟩=some (.string ⟨#[]⟩):=by simp [World.cell?,hb7]
 have z4:w7.cell? ⟨w.heap.size+1,4,none⟩=some (.string ⟨#[]⟩):=by simp [World.cell?,hb7]
 have z5:w7.cell? ⟨w.heap.size+1,5,none⟩=some (.int .i64 0):=by simp [World.cell?,hb7]
 have z6:w7.cell? ⟨w.heap.size+1,6,none⟩=some (.int .i64 0):=by simp [World.cell?,hb7]
 have zz:∀ i,w7.frozen? ⟨w.heap.size+1,i,none⟩=false:=fun i=>by simp [World.frozen?,hb7]
 have hlz:=ab z0
 have H7:=ae (And.intro hp7 (hf06.trans hf7 (fun _ _ h=>h)))
 clear hp7 hf7 hf06 hf56 hb6 hb7 hl6 hW6 r0 r1 r2 r3 r4 r5 r6 o0 o1 o2 o3 o4 o5 o6 rz oz hlr hlo
 go_wp2_with fail
 refine bodyPost_ret (v:=.tuple #[.agg #[.slice xo len xc,.int .i64 p2,.int .i64 l2,.string n2,.string f2,.int .i64 a2,.int .i64 y2],.slice sx sn sc]) (by simp [results,Tryz.results103,go_sem,z0,z1,z2,z3,z4,z5,z6]) rfl ?_
 exact ⟨p2,l2,n2,f2,a2,y2,sx,sn,sc,rfl,(aa HP2) _ _ _ _ _ _ _ _ _ _ _ (aa H7).1 ((((((((Fr.refl (fun k=>k=w.heap.size∨k=w.heap.size+1) w7).setCell (.inl (.inr rfl)) _).setCell (.inl (.inr rfl)) _).setCell (.inl (.inr rfl)) _).setCell (.inl (.inr rfl)) _).setCell (.inl (.inr rfl)) _).setCell (.inl (.inr rfl)) _).setCell (.inl (.inr rfl)) _),((((((((aa H7).2).setCell (.inr (Nat.le_succ _)) _).setCell (.inr (Nat.le_succ _)) _).setCell (.inr (Nat.le_succ _)) _).setCell (.inr (Nat.le_succ _)) _).setCell (.inr (Nat.le_succ _)) _).setCell (.inr (Nat.le_succ _)) _).setCell (.inr (Nat.le_succ _)) _⟩
theorem sb (xo:Option Addr) (len xc:Nat) (place last fa fy least most:Int) (nm0 fw nm:ByteArray) (w:World) (hy:fy≠0) (P P2:Int→Int→ByteArray→ByteArray→Int→Int→Option Addr→Nat→Nat→World→Prop)
  (hread:∀ w',Fr (fun _=>False) w w'→w.heap.size+2≤w'.heap.size→Calls Tryz.prog 125 #[aV xo len xc place last nm0 fw fa fy,.agg #[.int .i64 6,.int .u64 0,.string ⟨#[]⟩,.int .i64 0,.int .i64 most]] w' fun e w''=>∃ p' l' n' f' a' y' v sx sn sc,e = .returned (.tuple #[aV xo len xc p' l' n' f' a' y',.int .u64 (v:Nat),.slice sx sn sc])∧sn<9223372036854775808∧P p' l' n' f' a' y' sx sn sc w''∧Fr (fun _=>False) w' w'')
  (hP:∀ p' l' n' f' a' y' sx sn sc w1 w2,P p' l' n' f' a' y' sx sn sc w1→Fr (fun k=>k=w.heap.size∨k=w.heap.size+1) w1 w2→P p' l' n' f' a' y' sx sn sc w2)
  (hP2:∀ p' l' n' f' a' y' sx sn sc w1 w2,P2 p' l' n' f' a' y' sx sn sc w1→Fr (fun k=>k=w.heap.size∨k=w.heap.size+1) w1 w2→P2 p' l' n' f' a' y' sx sn sc w2)
  (hbad:∀ p' l' n' f' a' y' sx sn sc w1,P p' l' n' f' a' y' sx sn sc w1→Calls Tryz.prog 99 #[aV xo len xc p' l' n' f' a' y',.bool (decide ((sn:Int)<least)),.int .i64 4] w1 fun e w2=>∃ p2 l2 n2 f2 a2 y2,e = .returned (aV xo len xc p2 l2 n2 f2 a2 y2)∧P2 p2 l2 n2 f2 a2 y2 sx sn sc w2∧Fr (fun _=>False) w1 w2) :
  Calls Tryz.prog 103 #[aV xo len xc place last nm0 fw fa fy,.string nm,.int .i64 least,.int .i64 most] w fun e w'=>∃ p' l' n' f' a' y' sx sn sc,e = .returned (.tuple #[aV xo len xc p' l' n' f' a' y',.slice sx sn sc])∧P2 p' l' n' f' a' y' sx sn sc w'∧Fr (fun _=>False) w w':=by
 have hd:(fy == 0)=false:=by simp [hy]
 have HG:=ae (fun w'=>dC xo len xc place last fa fy nm0 fw w')
 have HR:=ae hread
 have HP:=ae hP
 have HB:=ae hbad
 have HP2:=ae hP2
 clear hread hP hbad hP2
 unfold aV at *
 go_enter Tryz.func103,Tryz.ntmps103
 go_wp2_with fail
 refine ((aa HG) _).mono ?_
 rintro e w1 ⟨rfl,rfl⟩
 rw [hd]
 go_wp2_with fail
 refine ((aa HR) _ (aO _ _ _ _) (by simp)).mono ?_
 rintro e w5 ⟨p',l',n',f',a',y',v,sx,sn,sc,rfl,hsn,hp5,hf5⟩
 have hs3:=(oJ w (.cells #[.slice xo len xc,.int .i64 place,.int .i64 last,.string nm0,.string fw,.int .i64 fa,.int .i64 fy] 120) (.cells #[.slice none 0 0,.int .i64 0,.int .i64 0,.string ⟨#[]⟩,.string ⟨#[]⟩,.int .i64 0,.int .i64 0] 120) (.cells #[.slice xo len xc,.int .i64 place,.int .i64 last,.string nm0,.string fw,.int .i64 fa,.int .i64 fy] 120))
 have hb0:=(hf5.block w.heap.size (by rw [hs3.2.2];omega) (fun h=>h)).trans hs3.1
 have hb1:=(hf5.block (w.heap.size+1) (by rw [hs3.2.2];omega) (fun h=>h)).trans hs3.2.1
 have r0:w5.cell? ⟨w.heap.size,0,none⟩=some (.slice xo len xc):=by simp [World.cell?,hb0]
 have r1:w5.cell? ⟨w.heap.size,1,none⟩=some (.int .i64 place):=by simp [World.cell?,hb0]
 have r2:w5.cell? ⟨w.heap.size,2,none⟩=some (.int .i64 last):=by simp [World.cell?,hb0]
 have r3:w5.cell? ⟨w.heap.size,3,none⟩=some (.string nm0):=by simp [World.cell?,hb0]
 have r4:w5.cell? ⟨w.heap.size,4,none⟩=some (.string fw):=by simp [World.cell?,hb0]
 have r5:w5.cell? ⟨w.heap.size,5,none⟩=some (.int .i64 fa):=by simp [World.cell?,hb0]
 have r6:w5.cell? ⟨w.heap.size,6,none⟩=some (.int .i64 fy):=by simp [World.cell?,hb0]
 have o0:w5.cell? ⟨w.heap.size+1,0,none⟩=some (.slice none 0 0):=by simp [World.cell?,hb1]
 have o1:w5.cell? ⟨w.heap.size+1,1,none⟩=some (.int .i64 0):=by simp [World.cell?,hb1]
 have o2:w5.cell? ⟨w.heap.size+1,2,none⟩=some (.int .i64 0):=by simp [World.cell?,hb1]
 have o3:w5.cell? ⟨w.heap.size+1,3,none⟩=some (.string ⟨#[]⟩):=by simp [World.cell?,hb1]
 have o4:w5.cell? ⟨w.heap.size+1,4,none⟩=some (.string ⟨#[]⟩):=by simp [World.cell?,hb1]
 have o5:w5.cell? ⟨w.heap.size+1,5,none⟩=some (.int .i64 0):=by simp [World.cell?,hb1]
 have o6:w5.cell? ⟨w.heap.size+1,6,none⟩=some (.int .i64 0):=by simp [World.cell?,hb1]
 have rz:∀ i,w5.frozen? ⟨w.heap.size,i,none⟩=false:=fun i=>by simp [World.frozen?,hb0]
 have oz:∀ i,w5.frozen? ⟨w.heap.size+1,i,none⟩=false:=fun i=>by simp [World.frozen?,hb1]
 have HB1:=ae hb1
 clear hs3 hb0 hb1
 have hlr:=ab r0
 have hlo:=ab o0
 have hf05:Fr (fun _=>False) w w5:=(aO _ _ _ _).trans hf5 (fun _ _ h=>h)
 have H5:=ae (And.intro hp5 hf05)
 clear hp5 hf5 hf05
 go_wp2_with fail
 obtain ⟨W6,hW6⟩:∃ W6,((((((w5.setCell ⟨w.heap.size,0,none⟩ (.slice xo len xc)).setCell ⟨w.heap.size,1,none⟩ (.int .i64 p')).setCell ⟨w.heap.size,2,none⟩ (.int .i64 l')).setCell ⟨w.heap.size,3,none⟩ (.string n')).setCell ⟨w.heap.size,4,none⟩ (.string f')).setCell ⟨w.heap.size,5,none⟩ (.int .i64 a')).setCell ⟨w.heap.size,6,none⟩ (.int .i64 y')=W6:=⟨_,rfl⟩
 have hb6:W6.heap[w.heap.size+1]?=some (.cells #[.slice none 0 0,.int .i64 0,.int .i64 0,.string ⟨#[]⟩,.string ⟨#[]⟩,.int .i64 0,.int .i64 0] 120):=by
  rw [← hW6,Below.heap_setCell _ _ _ _ (by show w.heap.size+1≠w.heap.size;omega),Below.heap_setCell _ _ _ _ (by show w.heap.size+1≠w.heap.size;omega),Below.heap_setCell _ _ _ _ (by show w.heap.size+1≠w.heap.size;omega),Below.heap_setCell _ _ _ _ (by show w.heap.size+1≠w.heap.size;omega),Below.heap_setCell _ _ _ _ (by show w.heap.size+1≠w.heap.size;omega),Below.heap_setCell _ _ _ _ (by show w.heap.size+1≠w.heap.size;omega),Below.heap_setCell _ _ _ _ (by show w.heap.size+1≠w.heap.size;omega)]
  exact aa HB1
 have hf56:Fr (fun k=>k=w.heap.size∨k=w.heap.size+1) w5 W6:=by rw [← hW6];exact (((((((Fr.refl (fun k=>k=w.heap.size∨k=w.heap.size+1) w5).setCell (.inl (.inl rfl)) _).setCell (.inl (.inl rfl)) _).setCell (.inl (.inl rfl)) _).setCell (.inl (.inl rfl)) _).setCell (.inl (.inl rfl)) _).setCell (.inl (.inl rfl)) _).setCell (.inl (.inl rfl)) _
 have hf06:Fr (fun _=>False) w W6:=by rw [← hW6];exact ((((((((aa H5).2).setCell (.inr (Nat.le_refl _)) _).setCell (.inr (Nat.le_refl _)) _).setCell (.inr (Nat.le_refl _)) _).setCell (.inr (Nat.le_refl _)) _).setCell (.inr (Nat.le_refl _)) _).setCell (.inr (Nat.le_refl _)) _).setCell (.inr (Nat.le_refl _)) _
 have HX:=ae ((aa HB) _ _ _ _ _ _ _ _ _ W6 ((aa HP) _ _ _ _ _ _ _ _ _ _ _ (aa H5).1 hf56))
 rw [hW6]
 refine (aa HX).mono ?_
 rintro e w7 ⟨p2,l2,n2,f2,a2,y2,rfl,hp7,hf7⟩
 have hl6:w.heap.size+1<W6.heap.size:=by
  rcases Nat.lt_or_ge (w.heap.size+1) W6.heap.size with hx|hx
  ·exact hx
  ·rw [Array.getElem?_eq_none hx] at hb6;cases hb6
 have hb7:=(hf7.block (w.heap.size+1) hl6 (fun h=>h)).trans hb6
 have z0:w7.cell? ⟨w.heap.size+1,0,none⟩=some (.slice none 0 0):=by simp [World.cell?,hb7]
 have z1:w7.cell? ⟨w.heap.size+1,1,none⟩=some (.int .i64 0):=by simp [World.cell?,hb7]
 have z2:w7.cell? ⟨w.heap.size+1,2,none⟩=some (.int .i64 0):=by simp [World.cell?,hb7]
 have z3:w7.cell? ⟨w.heap.size+1,3,none⟩=some (.string ⟨#[]⟩):=by simp [World.cell?,hb7]
 have z4:w7.cell? ⟨w.heap.size+1,4,none⟩=some (.string ⟨#[]⟩):=by simp [World.cell?,hb7]
 have z5:w7.cell? ⟨w.heap.size+1,5,none⟩=some (.int .i64 0):=by simp [World.cell?,hb7]
 have z6:w7.cell? ⟨w.heap.size+1,6,none⟩=some (.int .i64 0):=by simp [World.cell?,hb7]
 have zz:∀ i,w7.frozen? ⟨w.heap.size+1,i,none⟩=false:=fun i=>by simp [World.frozen?,hb7]
 have hlz:=ab z0
 have H7:=ae (And.intro hp7 (hf06.trans hf7 (fun _ _ h=>h)))
 clear hp7 hf7 hf06 hf56 hb6 hb7 hl6 hW6 r0 r1 r2 r3 r4 r5 r6 o0 o1 o2 o3 o4 o5 o6 rz oz hlr hlo
 go_wp2_with fail
 refine bodyPost_ret (v:=.tuple #[.agg #[.slice xo len xc,.int .i64 p2,.int .i64 l2,.string n2,.string f2,.int .i64 a2,.int .i64 y2],.slice sx sn sc]) (by simp [results,Tryz.results103,go_sem,z0,z1,z2,z3,z4,z5,z6]) rfl ?_
 exact ⟨p2,l2,n2,f2,a2,y2,sx,sn,sc,rfl,(aa HP2) _ _ _ _ _ _ _ _ _ _ _ (aa H7).1 ((((((((Fr.refl (fun k=>k=w.heap.size∨k=w.heap.size+1) w7).setCell (.inl (.inr rfl)) _).setCell (.inl (.inr rfl)) _).setCell (.inl (.inr rfl)) _).setCell (.inl (.inr rfl)) _).setCell (.inl (.inr rfl)) _).setCell (.inl (.inr rfl)) _).setCell (.inl (.inr rfl)) _),((((((((aa H7).2).setCell (.inr (Nat.le_succ _)) _).setCell (.inr (Nat.le_succ _)) _).setCell (.inr (Nat.le_succ _)) _).setCell (.inr (Nat.le_succ _)) _).setCell (.inr (Nat.le_succ _)) _).setCell (.inr (Nat.le_succ _)) _).setCell (.inr (Nat.le_succ _)) _⟩
def Q.many (q:Q) (nm:ByteArray) (least most:Int):Q × List Nat:=(((q.ah nm).go 6 most).1.ai (if (((q.ah nm).go 6 most).2.2.length:Int)<least then 4 else 0),((q.ah nm).go 6 most).2.2)
theorem pn (q:Q) (nm:ByteArray) (least most:Int) (xo:Option Addr) (xc last:Nat) (w:World) (hq:q.ok) (hx:Src w (.slice xo q.all.length xc) q.all) (hlc:q.all.length≤xc) (hl:q.all.length≤16777216) (hk:most<9223372036854775808) (hla:q.f=none→last=q.part) :
  Calls Tryz.prog 103 #[q.ref xo xc last,.string nm,.int .i64 least,.int .i64 most] w fun e w'=>∃ (last':Nat) (v:Value),e = .returned (.tuple #[(q.many nm least most).1.ref xo xc last',v])∧Src w' v (q.many nm least most).2∧(∀ g o m c,v = .slice (some ⟨g,o,none⟩) m c→w.heap.size≤g)∧((q.many nm least most).1.f=none→last'=(q.many nm least most).1.part)∧Fr (fun _=>False) w w':=by
 obtain ⟨r,hr⟩:∃ r,r=(q.ah nm).go 6 most:=⟨_,rfl⟩
 have hall:r.1.all=q.all:=by rw [hr,Q.go_all,Q.ba]
 have hrok:r.1.ok:=by rw [hr];exact Q.go_ok (Q.cP hq nm) _ _
 have hm:q.many nm least most=(r.1.ai (if (r.2.2.length:Int)<least then 4 else 0),r.2.2):=by rw [hr];rfl
 rw [hm]
 obtain ⟨q2,hq2⟩:∃ q2,q2=r.1.ai (if (r.2.2.length:Int)<least then 4 else 0):=⟨_,rfl⟩
 have hall2:q2.all=q.all:=by rw [hq2,Q.bZ];exact hall
 rw [← hq2]
 have eref:∀ (q':Q) (last':Nat),q'.all=q.all→q'.ref xo xc last'=aV xo q.all.length xc (q'.at_:Nat) (last':Nat) q'.nm (bo q'.f).1 ((bo q'.f).2.1:Nat) ((bo q'.f).2.2:Nat):=fun q' last' h=>by unfold Q.ref;rw [h]
 have hlr:r.2.2.length≤q.all.length:=by rw [hr];have:=(q.ah nm).tU most;rwa [Q.ba] at this
 have pstab:∀ (q':Q) (p' l':Int) (n' f':ByteArray) (a' y':Int) (sx:Option Addr) (sn sc:Nat) (w1 w2:World),((∃ last':Nat,aV xo q.all.length xc p' l' n' f' a' y'=q'.ref xo xc last'∧(q'.f=none→last'=q'.part))∧sn=r.2.2.length∧Src w1 (.slice sx sn sc) r.2.2∧∀ g o m c,Value.slice sx sn sc = .slice (some ⟨g,o,none⟩) m c→w.heap.size+2≤g)→Fr (fun k=>k=w.heap.size∨k=w.heap.size+1) w1 w2→((∃ last':Nat,aV xo q.all.length xc p' l' n' f' a' y'=q'.ref xo xc last'∧(q'.f=none→last'=q'.part))∧sn=r.2.2.length∧Src w2 (.slice sx sn sc) r.2.2∧∀ g o m c,Value.slice sx sn sc = .slice (some ⟨g,o,none⟩) m c→w.heap.size+2≤g):=
  fun q' p' l' n' f' a' y' sx sn sc w1 w2 ⟨h1,h2,h3,h4⟩ hf=>⟨h1,h2,h3.fr hf (fun g o m c e hx=>by have:=h4 g o m c e;omega),h4⟩
 have hrd:∀ w',Fr (fun _=>False) w w'→w.heap.size+2≤w'.heap.size→Calls Tryz.prog 125 #[(q.ah nm).ref xo xc last,.agg #[.int .i64 6,.int .u64 0,.string ⟨#[]⟩,.int .i64 0,.int .i64 most]] w' fun e w''=>∃ (p' l':Int) (n' f':ByteArray) (a' y':Int) (v:Nat) (sx:Option Addr) (sn sc:Nat),e = .returned (.tuple #[aV xo q.all.length xc p' l' n' f' a' y',.int .u64 (v:Nat),.slice sx sn sc])∧sn<9223372036854775808∧((∃ last':Nat,aV xo q.all.length xc p' l' n' f' a' y'=r.1.ref xo xc last'∧(r.1.f=none→last'=r.1.part))∧sn=r.2.2.length∧Src w'' (.slice sx sn sc) r.2.2∧∀ g o m c,Value.slice sx sn sc = .slice (some ⟨g,o,none⟩) m c→w.heap.size+2≤g)∧Fr (fun _=>False) w' w'':=fun w' hf hsz=>by
  refine (ky (q.ah nm) ⟨6,0,ByteArray.empty,0,most⟩ xo xc last w' (Q.cP hq nm) (by rw [Q.ba];exact hx.fr hf (fun _ _ _ _ _ h=>h)) (by rw [Q.ba];exact hlc) (by rw [Q.ba];exact hl) (by show (6:Int)∈kinds;decide) (fun h=>by simp at h) hk (by rw [Q.fP,Q.ic];exact hla)).mono ?_
  have er:(q.ah nm).step ⟨6,0,ByteArray.empty,0,most⟩=r:=hr.symm
  rw [er]
  rintro e w'' ⟨last',v,rfl,hs,hg,hl',hf'⟩
  obtain ⟨sx,sc,rfl⟩:=hs.form
  have e3:=eref r.1 last' hall
  refine ⟨_,_,_,_,_,_,r.2.1,sx,r.2.2.length,sc,?_,by omega,⟨⟨last',e3.symm,hl'⟩,rfl,hs,fun g o m c e=>Nat.le_trans hsz (hg g o m c e)⟩,hf'⟩
  rw [← e3]
 have hbd:∀ (p' l':Int) (n' f':ByteArray) (a' y':Int) (sx:Option Addr) (sn sc:Nat) (w1:World),((∃ last':Nat,aV xo q.all.length xc p' l' n' f' a' y'=r.1.ref xo xc last'∧(r.1.f=none→last'=r.1.part))∧sn=r.2.2.length∧Src w1 (.slice sx sn sc) r.2.2∧∀ g o m c,Value.slice sx sn sc = .slice (some ⟨g,o,none⟩) m c→w.heap.size+2≤g)→Calls Tryz.prog 99 #[aV xo q.all.length xc p' l' n' f' a' y',.bool (decide ((sn:Int)<least)),.int .i64 4] w1 fun e w2=>∃ (p2 l2:Int) (n2 f2:ByteArray) (a2 y2:Int),e = .returned (aV xo q.all.length xc p2 l2 n2 f2 a2 y2)∧((∃ last':Nat,aV xo q.all.length xc p2 l2 n2 f2 a2 y2=q2.ref xo xc last'∧(q2.f=none→last'=q2.part))∧sn=r.2.2.length∧Src w2 (.slice sx sn sc) r.2.2∧∀ g o m c,Value.slice sx sn sc = .slice (some ⟨g,o,none⟩) m c→w.heap.size+2≤g)∧Fr (fun _=>False) w1 w2:=by
  rintro p' l' n' f' a' y' sx sn sc w1 ⟨⟨last',h1,h2⟩,rfl,h3,h4⟩
  rw [h1]
  refine (mR r.1 xo xc last' (decide ((r.2.2.length:Int)<least)) 4 w1 hrok (by decide) h2).mono ?_
  have e4:r.1.ai (if decide ((r.2.2.length:Int)<least)=true then 4 else 0)=q2:=by rw [hq2];simp
  rw [e4]
  rintro e w2 ⟨last2,rfl,h5,hf⟩
  have e3:=eref q2 last2 hall2
  refine ⟨_,_,_,_,_,_,?_,⟨⟨last2,e3.symm,h5⟩,rfl,h3.fr hf (fun _ _ _ _ _ h=>h),h4⟩,hf⟩
  rw [← e3]
 have fin:∀ (e:Ending) (w':World),(∃ (p' l':Int) (n' f':ByteArray) (a' y':Int) (sx:Option Addr) (sn sc:Nat),e = .returned (.tuple #[aV xo q.all.length xc p' l' n' f' a' y',.slice sx sn sc])∧((∃ last':Nat,aV xo q.all.length xc p' l' n' f' a' y'=q2.ref xo xc last'∧(q2.f=none→last'=q2.part))∧sn=r.2.2.length∧Src w' (.slice sx sn sc) r.2.2∧∀ g o m c,Value.slice sx sn sc = .slice (some ⟨g,o,none⟩) m c→w.heap.size+2≤g)∧Fr (fun _=>False) w w')→∃ (last':Nat) (v:Value),e = .returned (.tuple #[q2.ref xo xc last',v])∧Src w' v r.2.2∧(∀ g o m c,v = .slice (some ⟨g,o,none⟩) m c→w.heap.size≤g)∧(q2.f=none→last'=q2.part)∧Fr (fun _=>False) w w':=by
  rintro e w' ⟨p',l',n',f',a',y',sx,sn,sc,rfl,⟨⟨last',h1,h2⟩,_,h3,h4⟩,hf⟩
  exact ⟨last',_,by rw [h1],h3,fun g o m c e=>by have:=h4 g o m c e;omega,h2,hf⟩
 by_cases hf:q.f=none
 ·have e1:(q.ah nm).ref xo xc last=aV xo q.all.length xc (q.at_:Nat) (last:Nat) nm (bo q.f).1 ((bo q.f).2.1:Nat) 0:=by
   unfold Q.ah;rw [if_pos hf];unfold Q.named Q.ref Q.at_;rw [hf];rfl
  have e2:q.ref xo xc last=aV xo q.all.length xc (q.at_:Nat) (last:Nat) q.nm (bo q.f).1 ((bo q.f).2.1:Nat) 0:=by
   unfold Q.ref;rw [hf];rfl
  rw [e1] at hrd
  rw [e2]
  exact (uL xo q.all.length xc _ _ _ least most q.nm _ nm w _ _ hrd (pstab r.1) (pstab q2) hbd).mono fin
 ·have e1:q.ah nm=q:=by unfold Q.ah;rw [if_neg hf]
  have hy:((bo q.f).2.2:Int)≠0:=fun e=>hf ((gx hq).1 (by omega))
  rw [show (q.ah nm).ref xo xc last=q.ref xo xc last by rw [e1]] at hrd
  exact (sb xo q.all.length xc _ _ _ _ least most q.nm _ nm w hy _ _ hrd (pstab r.1) (pstab q2) hbd).mono fin
theorem rj (xo:Option Addr) (len xc:Nat) (place last fa:Int) (nm0 fw:ByteArray) (w:World) (R:Value)
  (hend:∀ w',Fr (fun _=>False) w w'→Calls Tryz.prog 106 #[aV xo len xc place last bt fw fa 0] w' fun e w''=>e = .returned R∧Fr (fun _=>False) w' w'') (hR:∃ a b c,R = .agg #[.string a,.int .i64 b,.int .i64 c]) :
  Calls Tryz.prog 66 #[aV xo len xc place last nm0 fw fa 0] w fun e w'=>e = .returned R∧Fr (fun _=>False) w w':=by
 have hd:((0:Int) == 0)=true:=rfl
 obtain ⟨a,b,c,rfl⟩:=hR
 have HG:=ae (fun w'=>dC xo len xc place last fa 0 nm0 fw w')
 have HR:=ae hend
 clear hend
 unfold aV at *
 go_enter Tryz.func66,Tryz.ntmps66
 go_wp2_with fail
 refine ((aa HG) _).mono ?_
 rintro e w1 ⟨rfl,rfl⟩
 rw [hd]
 go_wp2_with fail
 refine ((aa HR) _ (aO _ _ _ _)).mono ?_
 rintro e w5 ⟨rfl,hf5⟩
 have hs3:=(oJ w (.cells #[.slice xo len xc,.int .i64 place,.int .i64 last,.string bt,.string fw,.int .i64 fa,.int .i64 0] 120) (.cells #[.string ⟨#[]⟩,.int .i64 0,.int .i64 0] 55) (.cells #[.slice xo len xc,.int .i64 place,.int .i64 last,.string nm0,.string fw,.int .i64 fa,.int .i64 0] 120))
 have hb1:=(hf5.block (w.heap.size+1) (Nat.lt_of_lt_of_eq (by omega:w.heap.size+1<w.heap.size+3) hs3.2.2.symm) (fun h=>h)).trans hs3.2.1
 have o0:w5.cell? ⟨w.heap.size+1,0,none⟩=some (.string ⟨#[]⟩):=by simp [World.cell?,hb1]
 have o1:w5.cell? ⟨w.heap.size+1,1,none⟩=some (.int .i64 0):=by simp [World.cell?,hb1]
 have o2:w5.cell? ⟨w.heap.size+1,2,none⟩=some (.int .i64 0):=by simp [World.cell?,hb1]
 have oz:∀ i,w5.frozen? ⟨w.heap.size+1,i,none⟩=false:=fun i=>by simp [World.frozen?,hb1]
 have hlo:=ab o0
 have H5:=ae ((aO _ _ _ _).trans hf5 (fun _ _ h=>h))
 clear hf5 hs3 hb1
 go_wp2_with fail
 refine bodyPost_ret (v:=.agg #[.string a,.int .i64 b,.int .i64 c]) (by simp [results,Tryz.results66,go_sem,o0,o1,o2]) rfl ⟨rfl,?_⟩
 exact (((aa H5).setCell (.inr (Nat.le_succ _)) _).setCell (.inr (Nat.le_succ _)) _).setCell (.inr (Nat.le_succ _)) _
theorem qi (xo:Option Addr) (len xc:Nat) (place last fa fy:Int) (nm0 fw:ByteArray) (w:World) (hy:fy≠0) (R:Value)
  (hend:∀ w',Fr (fun _=>False) w w'→Calls Tryz.prog 106 #[aV xo len xc place last nm0 fw fa fy] w' fun e w''=>e = .returned R∧Fr (fun _=>False) w' w'') (hR:∃ a b c,R = .agg #[.string a,.int .i64 b,.int .i64 c]) :
  Calls Tryz.prog 66 #[aV xo len xc place last nm0 fw fa fy] w fun e w'=>e = .returned R∧Fr (fun _=>False) w w':=by
 have hd:(fy == 0)=false:=by simp [hy]
 obtain ⟨a,b,c,rfl⟩:=hR
 have HG:=ae (fun w'=>dC xo len xc place last fa fy nm0 fw w')
 have HR:=ae hend
 clear hend
 unfold aV at *
 go_enter Tryz.func66,Tryz.ntmps66
 go_wp2_with fail
 refine ((aa HG) _).mono ?_
 rintro e w1 ⟨rfl,rfl⟩
 rw [hd]
 go_wp2_with fail
 refine ((aa HR) _ (aO _ _ _ _)).mono ?_
 rintro e w5 ⟨rfl,hf5⟩
 have hs3:=(oJ w (.cells #[.slice xo len xc,.int .i64 place,.int .i64 last,.string nm0,.string fw,.int .i64 fa,.int .i64 fy] 120) (.cells #[.string ⟨#[]⟩,.int .i64 0,.int .i64 0] 55) (.cells #[.slice xo len xc,.int .i64 place,.int .i64 last,.string nm0,.string fw,.int .i64 fa,.int .i64 fy] 120))
 have hb1:=(hf5.block (w.heap.size+1) (Nat.lt_of_lt_of_eq (by omega:w.heap.size+1<w.heap.size+3) hs3.2.2.symm) (fun h=>h)).trans hs3.2.1
 have o0:w5.cell? ⟨w.heap.size+1,0,none⟩=some (.string ⟨#[]⟩):=by simp [World.cell?,hb1]
 have o1:w5.cell? ⟨w.heap.size+1,1,none⟩=some (.int .i64 0):=by simp [World.cell?,hb1]
 have o2:w5.cell? ⟨w.heap.size+1,2,none⟩=some (.int .i64 0):=by simp [World.cell?,hb1]
 have oz:∀ i,w5.frozen? ⟨w.heap.size+1,i,none⟩=false:=fun i=>by simp [World.frozen?,hb1]
 have hlo:=ab o0
 have H5:=ae ((aO _ _ _ _).trans hf5 (fun _ _ h=>h))
 clear hf5 hs3 hb1
 go_wp2_with fail
 refine bodyPost_ret (v:=.agg #[.string a,.int .i64 b,.int .i64 c]) (by simp [results,Tryz.results66,go_sem,o0,o1,o2]) rfl ⟨rfl,?_⟩
 exact (((aa H5).setCell (.inr (Nat.le_succ _)) _).setCell (.inr (Nat.le_succ _)) _).setCell (.inr (Nat.le_succ _)) _
theorem tN (q:Q) (xo:Option Addr) (xc last:Nat) (w:World) (hq:q.ok) :
  Calls Tryz.prog 66 #[q.ref xo xc last] w fun e w'=>e = .returned (.agg #[.string (q.ah bt).ended.1,.int .i64 ((q.ah bt).ended.2.1:Nat),.int .i64 ((q.ah bt).ended.2.2:Nat)])∧Fr (fun _=>False) w w':=by
 have he:∀ w',Fr (fun _=>False) w w'→Calls Tryz.prog 106 #[(q.ah bt).ref xo xc last] w' fun e w''=>e = .returned (.agg #[.string (q.ah bt).ended.1,.int .i64 ((q.ah bt).ended.2.1:Nat),.int .i64 ((q.ah bt).ended.2.2:Nat)])∧Fr (fun _=>False) w' w'':=fun w' _=>xh (q.ah bt) xo xc last w' (Q.cP hq bt)
 by_cases hf:q.f=none
 ·have e1:(q.ah bt).ref xo xc last=aV xo q.all.length xc (q.at_:Nat) (last:Nat) bt (bo q.f).1 ((bo q.f).2.1:Nat) 0:=by
   unfold Q.ah;rw [if_pos hf];unfold Q.named Q.ref Q.at_;rw [hf];rfl
  have e2:q.ref xo xc last=aV xo q.all.length xc (q.at_:Nat) (last:Nat) q.nm (bo q.f).1 ((bo q.f).2.1:Nat) 0:=by
   unfold Q.ref;rw [hf];rfl
  rw [e1] at he
  rw [e2]
  exact rj xo q.all.length xc _ _ _ q.nm _ w _ he ⟨_,_,_,rfl⟩
 ·have e1:q.ah bt=q:=by unfold Q.ah;rw [if_neg hf]
  have hy:((bo q.f).2.2:Int)≠0:=fun e=>hf ((gx hq).1 (by omega))
  rw [show (q.ah bt).ref xo xc last=q.ref xo xc last by rw [e1]] at he
  exact qi xo q.all.length xc _ _ _ _ q.nm _ w hy _ he ⟨_,_,_,rfl⟩
theorem uo (w:World) (a b:Obj):((w.alloc a).alloc b).heap[w.heap.size]?=some a∧((w.alloc a).alloc b).heap[w.heap.size+1]?=some b∧((w.alloc a).alloc b).heap.size=w.heap.size+2:=by
 have s1:(w.alloc a).heap.size=w.heap.size+1:=by simp
 refine ⟨?_,?_,by simp⟩
 ·rw [Below.heap_alloc _ _ _ (by omega)]
  exact heap_alloc_new w a
 ·rw [← s1]
  exact heap_alloc_new _ b
def Q.begun (l:List Nat) (form:Nat):Q:=((Q.mk ByteArray.empty l 0 0 none).ah cV |>.go 1 0).1.ai (if ((Q.mk ByteArray.empty l 0 0 none).ah cV |>.go 1 0).2.1=form then 0 else 5)
theorem vr (l:List Nat) (form:Nat) (xo:Option Addr) (xc:Nat) (w:World) (hx:Src w (.slice xo l.length xc) l) (hlc:l.length≤xc) (hl:l.length≤16777216) :
  Calls Tryz.prog 57 #[.slice xo l.length xc,.int .i64 (form:Nat)] w fun e w'=>∃ last',e = .returned ((Q.begun l form).ref xo xc last')∧((Q.begun l form).f=none→last'=(Q.begun l form).part)∧Fr (fun _=>False) w w':=by
 have hq0:(Q.mk ByteArray.empty l 0 0 none).ok:=⟨Nat.zero_le _,Nat.zero_le _,fun y hy=>by cases hy⟩
 obtain ⟨r,hr⟩:∃ r,r=((Q.mk ByteArray.empty l 0 0 none).ah cV).go 1 0:=⟨_,rfl⟩
 have hbg:Q.begun l form=r.1.ai (if r.2.1=form then 0 else 5):=by rw [hr];rfl
 have hall:r.1.all=l:=by rw [hr,Q.go_all,Q.ba]
 have hrok:r.1.ok:=by rw [hr];exact Q.go_ok (Q.cP hq0 _) _ _
 have hrv:r.2.1<256:=by rw [hr];exact Q.go_lt _ 1 0
 have HN:Hid (∀ w',Fr (fun _=>False) w w'→Calls Tryz.prog 98 #[aV xo l.length xc 0 0 ⟨#[]⟩ ⟨#[]⟩ 0 0,.string cV,.int .i64 1] w' fun e w''=>∃ last':Nat,e = .returned (.tuple #[aV xo l.length xc (r.1.at_:Nat) (last':Nat) r.1.nm (bo r.1.f).1 ((bo r.1.f).2.1:Nat) ((bo r.1.f).2.2:Nat),.int .u64 (r.2.1:Nat)])∧(r.1.f=none→last'=r.1.part)∧Fr (fun _=>False) w' w''):=fun w' hf=>by
  refine (nh (Q.mk ByteArray.empty l 0 0 none) cV 1 xo xc 0 w' hq0 (hx.fr hf (fun _ _ _ _ _ h=>h)) hlc hl (.inl rfl) (fun _=>rfl)).mono ?_
  rw [← hr]
  rintro e w'' ⟨last',rfl,h1,h2⟩
  refine ⟨last',?_,h1,h2⟩
  unfold Q.ref
  rw [hall]
 have HB:Hid (∀ w' (last':Nat),(r.1.f=none→last'=r.1.part)→Calls Tryz.prog 99 #[aV xo l.length xc (r.1.at_:Nat) (last':Nat) r.1.nm (bo r.1.f).1 ((bo r.1.f).2.1:Nat) ((bo r.1.f).2.2:Nat),.bool ((r.2.1:Int) != (form:Int)),.int .i64 5] w' fun e w''=>∃ last2:Nat,e = .returned ((Q.begun l form).ref xo xc last2)∧((Q.begun l form).f=none→last2=(Q.begun l form).part)∧Fr (fun _=>False) w' w''):=fun w' last' hla=>by
  have hg:=mR r.1 xo xc last' ((r.2.1:Int) != (form:Int)) 5 w' hrok (by decide) hla
  have e1:r.1.ai (if ((r.2.1:Int) != (form:Int))=true then 5 else 0)=Q.begun l form:=by
   rw [hbg]
   by_cases h:r.2.1=form
   ·simp [h]
   ·have:((r.2.1:Int) != (form:Int))=true:=by simp;omega
    rw [this,if_neg h]
    rfl
  rw [e1] at hg
  have e2:r.1.ref xo xc last'=aV xo l.length xc (r.1.at_:Nat) (last':Nat) r.1.nm (bo r.1.f).1 ((bo r.1.f).2.1:Nat) ((bo r.1.f).2.2:Nat):=by unfold Q.ref;rw [hall]
  rw [e2] at hg
  exact hg
 clear hr hbg hall hrok hx
 unfold aV at *
 go_enter Tryz.func57,Tryz.ntmps57
 go_wp2_with fail
 refine ((aa HN) _ (aZ _ _ _)).mono ?_
 rintro e w5 ⟨last',rfl,hla,hf5⟩
 have hs2:=uo w (.cells #[.slice none 0 0,.int .i64 0,.int .i64 0,.string ⟨#[]⟩,.string ⟨#[]⟩,.int .i64 0,.int .i64 0] 120) (.cells #[.slice xo l.length xc,.int .i64 0,.int .i64 0,.string ⟨#[]⟩,.string ⟨#[]⟩,.int .i64 0,.int .i64 0] 120)
 have hb0:=(hf5.block w.heap.size (by rw [hs2.2.2];omega) (fun h=>h)).trans hs2.1
 have hb1:=(hf5.block (w.heap.size+1) (by rw [hs2.2.2];omega) (fun h=>h)).trans hs2.2.1
 have r0:w5.cell? ⟨w.heap.size+1,0,none⟩=some (.slice xo l.length xc):=by simp [World.cell?,hb1]
 have r1:w5.cell? ⟨w.heap.size+1,1,none⟩=some (.int .i64 0):=by simp [World.cell?,hb1]
 have r2:w5.cell? ⟨w.heap.size+1,2,none⟩=some (.int .i64 0):=by simp [World.cell?,hb1]
 have r3:w5.cell? ⟨w.heap.size+1,3,none⟩=some (.string ⟨#[]⟩):=by simp [World.cell?,hb1]
 have r4:w5.cell? ⟨w.heap.size+1,4,none⟩=some (.string ⟨#[]⟩):=by simp [World.cell?,hb1]
 have r5:w5.cell? ⟨w.heap.size+1,5,none⟩=some (.int .i64 0):=by simp [World.cell?,hb1]
 have r6:w5.cell? ⟨w.heap.size+1,6,none⟩=some (.int .i64 0):=by simp [World.cell?,hb1]
 have rz:∀ i,w5.frozen? ⟨w.heap.size+1,i,none⟩=false:=fun i=>by simp [World.frozen?,hb1]
 have hlr:=ab r0
 have H5:=ae (And.intro hla (And.intro ((aZ _ _ _).trans hf5 (fun _ _ h=>h)) hb0))
 clear hla hf5 hs2 hb0 hb1
 go_wp2_with fail
 obtain ⟨W6,hW6⟩:∃ W6,((((((w5.setCell ⟨w.heap.size+1,0,none⟩ (.slice xo l.length xc)).setCell ⟨w.heap.size+1,1,none⟩ (.int .i64 (r.1.at_:Nat))).setCell ⟨w.heap.size+1,2,none⟩ (.int .i64 (last':Nat))).setCell ⟨w.heap.size+1,3,none⟩ (.string r.1.nm)).setCell ⟨w.heap.size+1,4,none⟩ (.string (bo r.1.f).1)).setCell ⟨w.heap.size+1,5,none⟩ (.int .i64 ((bo r.1.f).2.1:Nat))).setCell ⟨w.heap.size+1,6,none⟩ (.int .i64 ((bo r.1.f).2.2:Nat))=W6:=⟨_,rfl⟩
 have hb6:W6.heap[w.heap.size]?=some (.cells #[.slice none 0 0,.int .i64 0,.int .i64 0,.string ⟨#[]⟩,.string ⟨#[]⟩,.int .i64 0,.int .i64 0] 120):=by
  rw [← hW6,Below.heap_setCell _ _ _ _ (by show w.heap.size≠w.heap.size+1;omega),Below.heap_setCell _ _ _ _ (by show w.heap.size≠w.heap.size+1;omega),Below.heap_setCell _ _ _ _ (by show w.heap.size≠w.heap.size+1;omega),Below.heap_setCell _ _ _ _ (by show w.heap.size≠w.heap.size+1;omega),Below.heap_setCell _ _ _ _ (by show w.heap.size≠w.heap.size+1;omega),Below.heap_setCell _ _ _ _ (by show w.heap.size≠w.heap.size+1;omega),Below.heap_setCell _ _ _ _ (by show w.heap.size≠w.heap.size+1;omega)]
  exact (aa H5).2.2
 have hf06:Fr (fun _=>False) w W6:=by rw [← hW6];exact ((((((((aa H5).2.1).setCell (.inr (Nat.le_succ _)) _).setCell (.inr (Nat.le_succ _)) _).setCell (.inr (Nat.le_succ _)) _).setCell (.inr (Nat.le_succ _)) _).setCell (.inr (Nat.le_succ _)) _).setCell (.inr (Nat.le_succ _)) _).setCell (.inr (Nat.le_succ _)) _
 rw [hW6]
 refine ((aa HB) W6 last' (aa H5).1).mono ?_
 rintro e w7 ⟨last2,rfl,h5,hf7⟩
 have hl6:w.heap.size<W6.heap.size:=by
  rcases Nat.lt_or_ge w.heap.size W6.heap.size with hx|hx
  ·exact hx
  ·rw [Array.getElem?_eq_none hx] at hb6;cases hb6
 have hb7:=(hf7.block w.heap.size hl6 (fun h=>h)).trans hb6
 have z0:w7.cell? ⟨w.heap.size,0,none⟩=some (.slice none 0 0):=by simp [World.cell?,hb7]
 have z1:w7.cell? ⟨w.heap.size,1,none⟩=some (.int .i64 0):=by simp [World.cell?,hb7]
 have z2:w7.cell? ⟨w.heap.size,2,none⟩=some (.int .i64 0):=by simp [World.cell?,hb7]
 have z3:w7.cell? ⟨w.heap.size,3,none⟩=some (.string ⟨#[]⟩):=by simp [World.cell?,hb7]
 have z4:w7.cell? ⟨w.heap.size,4,none⟩=some (.string ⟨#[]⟩):=by simp [World.cell?,hb7]
 have z5:w7.cell? ⟨w.heap.size,5,none⟩=some (.int .i64 0):=by simp [World.cell?,hb7]
 have z6:w7.cell? ⟨w.heap.size,6,none⟩=some (.int .i64 0):=by simp [World.cell?,hb7]
 have zz:∀ i,w7.frozen? ⟨w.heap.size,i,none⟩=false:=fun i=>by simp [World.frozen?,hb7]
 have hlz:=ab z0
 have H7:=ae (And.intro h5 (hf06.trans hf7 (fun _ _ h=>h)))
 clear h5 hf7 hf06 hb6 hb7 hl6 hW6 r0 r1 r2 r3 r4 r5 r6 rz hlr
 have eref:∀ n:Nat,(Q.begun l form).ref xo xc n = .agg #[.slice xo (Q.begun l form).all.length xc,.int .i64 ((Q.begun l form).at_:Nat),.int .i64 (n:Nat),.string (Q.begun l form).nm,.string (bo (Q.begun l form).f).1,.int .i64 ((bo (Q.begun l form).f).2.1:Nat),.int .i64 ((bo (Q.begun l form).f).2.2:Nat)]:=fun _=>rfl
 have HE:=ae eref
 rw [eref]
 clear eref
 go_wp2_with fail
 refine bodyPost_ret (v:=(Q.begun l form).ref xo xc last2) (by rw [aa HE];simp [results,Tryz.results57,go_sem,z0,z1,z2,z3,z4,z5,z6]) rfl ?_
 exact ⟨last2,rfl,(aa H7).1,((((((((aa H7).2).setCell (.inr (Nat.le_refl _)) _).setCell (.inr (Nat.le_refl _)) _).setCell (.inr (Nat.le_refl _)) _).setCell (.inr (Nat.le_refl _)) _).setCell (.inr (Nat.le_refl _)) _).setCell (.inr (Nat.le_refl _)) _).setCell (.inr (Nat.le_refl _)) _⟩
def Q.rv (q:Q) (xo:Option Addr) (len xc last:Nat):Array Value:=#[.slice xo len xc,.int .i64 (q.at_:Nat),.int .i64 (last:Nat),.string q.nm,.string (bo q.f).1,.int .i64 ((bo q.f).2.1:Nat),.int .i64 ((bo q.f).2.2:Nat)]
theorem Q.dx {q:Q} {len:Nat} (h:q.all.length=len) (xo:Option Addr) (xc last:Nat):q.ref xo xc last = .agg (q.rv xo len xc last):=by unfold Q.ref Q.rv aV;rw [h]
def Q.bB (q:Q):Q × Nat × List Nat:=((((q.ah dm).go 4 0).1.many dB 1 32).1,((q.ah dm).go 4 0).2.1,(((q.ah dm).go 4 0).1.many dB 1 32).2)
theorem aL {w:World} {p p':Addr} {u:Value} (h:∃ v,w.cell? p'=some v):∃ v,(w.setCell p u).cell? p'=some v:=by
 obtain ⟨v,h⟩:=h
 by_cases e:p=p'
 ·subst e;exact ⟨u,World.cell?_setCell_same _ _ _ h⟩
 ·exact ⟨v,by rw [World.cell?_setCell_other _ _ _ _ e];exact h⟩
theorem mv (w:World) (a b c d:Obj):Fr (fun _=>False) w ((((w.alloc a).alloc b).alloc c).alloc d):=((((Fr.refl _ _).alloc _).alloc _).alloc _).alloc _
theorem Dk (w:World) (a b c d:Obj):((((w.alloc a).alloc b).alloc c).alloc d).heap[w.heap.size]?=some a∧((((w.alloc a).alloc b).alloc c).alloc d).heap[w.heap.size+1]?=some b∧((((w.alloc a).alloc b).alloc c).alloc d).heap[w.heap.size+1+1]?=some c∧((((w.alloc a).alloc b).alloc c).alloc d).heap[w.heap.size+1+1+1]?=some d∧((((w.alloc a).alloc b).alloc c).alloc d).heap.size=w.heap.size+4:=by
 have h3:=oJ w a b c
 have s2:((w.alloc a).alloc b).heap.size=w.heap.size+1+1:=by simp
 have s3:(((w.alloc a).alloc b).alloc c).heap.size=w.heap.size+1+1+1:=by simp
 refine ⟨?_,?_,?_,?_,by simp⟩
 ·rw [Below.heap_alloc _ _ _ (by omega)];exact h3.1
 ·rw [Below.heap_alloc _ _ _ (by omega)];exact h3.2.1
 ·rw [Below.heap_alloc _ _ _ (by omega),← s2]
  exact heap_alloc_new _ c
 ·rw [← s3]
  exact heap_alloc_new _ d
theorem pK (q:Q) (xo:Option Addr) (xc last:Nat) (w:World) (hq:q.ok) (hx:Src w (.slice xo q.all.length xc) q.all) (hlc:q.all.length≤xc) (hl:q.all.length≤16777216) (hla:q.f=none→last=q.part) :
  Calls Tryz.prog 62 #[q.ref xo xc last] w fun e w'=>∃ (last':Nat) (v:Value),e = .returned (.tuple #[q.bB.1.ref xo xc last',.agg #[.int .u32 (q.bB.2.1:Nat),v]])∧Src w' v q.bB.2.2∧(∀ g o m c,v = .slice (some ⟨g,o,none⟩) m c→w.heap.size≤g)∧(q.bB.1.f=none→last'=q.bB.1.part)∧Fr (fun _=>False) w w':=by
 obtain ⟨r,hr⟩:∃ r,r=(q.ah dm).go 4 0:=⟨_,rfl⟩
 have hall:r.1.all=q.all:=by rw [hr,Q.go_all,Q.ba]
 have hrok:r.1.ok:=by rw [hr];exact Q.go_ok (Q.cP hq _) _ _
 have hrv:r.2.1<4294967296:=by rw [hr];exact Q.go_lt _ 4 0
 obtain ⟨len,hlen⟩:∃ len,len=q.all.length:=⟨_,rfl⟩
 have HN:Hid (∀ w',Fr (fun _=>False) w w'→Calls Tryz.prog 98 #[.agg (q.rv xo len xc last),.string dm,.int .i64 4] w' fun e w''=>∃ last':Nat,e = .returned (.tuple #[.agg (r.1.rv xo len xc last'),.int .u64 (r.2.1:Nat)])∧(r.1.f=none→last'=r.1.part)∧Fr (fun _=>False) w' w''):=fun w' hf=>by
  have hg:=nh q dm 4 xo xc last w' hq (hx.fr hf (fun _ _ _ _ _ h=>h)) hlc hl (.inr (.inl rfl)) hla
  rw [← hr,Q.dx hlen.symm] at hg
  refine hg.mono ?_
  rintro e w'' ⟨last',rfl,h1,h2⟩
  exact ⟨last',by rw [Q.dx (show r.1.all.length=len by rw [hall,hlen])],h1,h2⟩
 have hgh:q.bB=((r.1.many dB 1 32).1,r.2.1,(r.1.many dB 1 32).2):=by rw [hr];rfl
 have hallm:(r.1.many dB 1 32).1.all=q.all:=by
  show (((r.1.ah dB).go 6 32).1.ai _).all=q.all
  rw [Q.bZ,Q.go_all,Q.ba,hall]
 have HM:Hid (∀ w' (last':Nat),Fr (fun _=>False) w w'→(r.1.f=none→last'=r.1.part)→Calls Tryz.prog 103 #[.agg (r.1.rv xo len xc last'),.string dB,.int .i64 1,.int .i64 32] w' fun e w''=>∃ (last2:Nat) (sx:Option Addr) (sn sc:Nat),e = .returned (.tuple #[.agg (q.bB.1.rv xo len xc last2),.slice sx sn sc])∧Src w'' (.slice sx sn sc) q.bB.2.2∧(∀ g o m c,Value.slice sx sn sc = .slice (some ⟨g,o,none⟩) m c→w'.heap.size≤g)∧(q.bB.1.f=none→last2=q.bB.1.part)∧Fr (fun _=>False) w' w''):=fun w' last' hf h=>by
  have hg:=pn r.1 dB 1 32 xo xc last' w' hrok (by rw [hall];exact hx.fr hf (fun _ _ _ _ _ h=>h)) (by rw [hall];exact hlc) (by rw [hall];exact hl) (by decide) h
  rw [Q.dx (show r.1.all.length=len by rw [hall,hlen])] at hg
  rw [hgh]
  refine hg.mono ?_
  rintro e w'' ⟨last2,v,rfl,h1,h2,h3,h4⟩
  obtain ⟨sx,sc,rfl⟩:=h1.form
  exact ⟨last2,sx,_,sc,by rw [Q.dx (show (r.1.many dB 1 32).1.all.length=len by rw [hallm,hlen])],h1,h2,h3,h4⟩
 have eg:∀ n,q.bB.1.ref xo xc n = .agg (q.bB.1.rv xo len xc n):=fun n=>Q.dx (by rw [hgh];show (r.1.many dB 1 32).1.all.length=len;rw [hallm,hlen]) xo xc n
 have ev:q.bB.2.1=r.2.1:=by rw [hgh]
 rw [Q.dx hlen.symm,ev]
 have EG:=ae eg
 clear hr hall hrok hx hlc hl hgh hallm eg ev hla hq hlen
 unfold Q.rv at *
 go_enter Tryz.func62,Tryz.ntmps62
 go_wp2_with fail
 refine ((aa HN) _ (mv _ _ _ _ _)).mono ?_
 rintro e w5 ⟨last',rfl,hla,hf5⟩
 have hs4:=Dk w (.cells #[.slice xo len xc,.int .i64 (q.at_:Nat),.int .i64 (last:Nat),.string q.nm,.string (bo q.f).1,.int .i64 ((bo q.f).2.1:Nat),.int .i64 ((bo q.f).2.2:Nat)] 120) (.cells #[.slice none 0 0,.int .i64 0,.int .i64 0,.string ⟨#[]⟩,.string ⟨#[]⟩,.int .i64 0,.int .i64 0] 120) (.cells #[.int .u32 0,.slice none 0 0] 25) (.cells #[.int .u32 0,.slice none 0 0] 25)
 have hb0:=(hf5.block (w.heap.size) (by rw [hs4.2.2.2.2];omega) (fun h=>h)).trans hs4.1
 have hb1:=(hf5.block (w.heap.size+1) (by rw [hs4.2.2.2.2];omega) (fun h=>h)).trans hs4.2.1
 have hb2:=(hf5.block (w.heap.size+1+1) (by rw [hs4.2.2.2.2];omega) (fun h=>h)).trans hs4.2.2.1
 have hb3:=(hf5.block (w.heap.size+1+1+1) (by rw [hs4.2.2.2.2];omega) (fun h=>h)).trans hs4.2.2.2.1
 have r0:w5.cell? ⟨w.heap.size,0,none⟩=some (.slice xo len xc):=by simp [World.cell?,hb0]
 have r1:w5.cell? ⟨w.heap.size,1,none⟩=some (.int .i64 (q.at_:Nat)):=by simp [World.cell?,hb0]
 have r2:w5.cell? ⟨w.heap.size,2,none⟩=some (.int .i64 (last:Nat)):=by simp [World.cell?,hb0]
 have r3:w5.cell? ⟨w.heap.size,3,none⟩=some (.string q.nm):=by simp [World.cell?,hb0]
 have r4:w5.cell? ⟨w.heap.size,4,none⟩=some (.string (bo q.f).1):=by simp [World.cell?,hb0]
 have r5:w5.cell? ⟨w.heap.size,5,none⟩=some (.int .i64 ((bo q.f).2.1:Nat)):=by simp [World.cell?,hb0]
 have r6:w5.cell? ⟨w.heap.size,6,none⟩=some (.int .i64 ((bo q.f).2.2:Nat)):=by simp [World.cell?,hb0]
 have h0:w5.cell? ⟨w.heap.size+1+1+1,0,none⟩=some (.int .u32 0):=by simp [World.cell?,hb3]
 have h1:w5.cell? ⟨w.heap.size+1+1+1,1,none⟩=some (.slice none 0 0):=by simp [World.cell?,hb3]
 have rz:∀ i,w5.frozen? ⟨w.heap.size,i,none⟩=false:=fun i=>by simp [World.frozen?,hb0]
 have hzz:∀ i,w5.frozen? ⟨w.heap.size+1+1+1,i,none⟩=false:=fun i=>by simp [World.frozen?,hb3]
 have hlr:=ab r0
 have hlh:=ab h0
 have H5:=ae (And.intro hla (And.intro ((mv _ _ _ _ _).trans hf5 (fun _ _ h=>h)) (And.intro hb1 hb2)))
 clear hla hf5 hs4 hb0 hb1 hb2 hb3
 go_wp2_with fail
 obtain ⟨W5,hW5⟩:∃ W5,((((((w5.setCell ⟨w.heap.size,0,none⟩ (.slice xo len xc)).setCell ⟨w.heap.size,1,none⟩ (.int .i64 (r.1.at_:Nat))).setCell ⟨w.heap.size,2,none⟩ (.int .i64 (last':Nat))).setCell ⟨w.heap.size,3,none⟩ (.string r.1.nm)).setCell ⟨w.heap.size,4,none⟩ (.string (bo r.1.f).1)).setCell ⟨w.heap.size,5,none⟩ (.int .i64 ((bo r.1.f).2.1:Nat))).setCell ⟨w.heap.size,6,none⟩ (.int .i64 ((bo r.1.f).2.2:Nat))=W5:=⟨_,rfl⟩
 have hf55:Fr (fun k=>k=w.heap.size) w5 W5:=by rw [← hW5];exact (((((((Fr.refl (fun k=>k=w.heap.size) w5).setCell (.inl rfl) _).setCell (.inl rfl) _).setCell (.inl rfl) _).setCell (.inl rfl) _).setCell (.inl rfl) _).setCell (.inl rfl) _).setCell (.inl rfl) _
 obtain ⟨y0,s0⟩:∃ y,W5.cell? ⟨w.heap.size,0,none⟩=some y:=by rw [← hW5];exact aL (aL (aL (aL (aL (aL (aL (⟨_,r0⟩)))))))
 obtain ⟨y1,s1⟩:∃ y,W5.cell? ⟨w.heap.size,1,none⟩=some y:=by rw [← hW5];exact aL (aL (aL (aL (aL (aL (aL (⟨_,r1⟩)))))))
 obtain ⟨y2,s2⟩:∃ y,W5.cell? ⟨w.heap.size,2,none⟩=some y:=by rw [← hW5];exact aL (aL (aL (aL (aL (aL (aL (⟨_,r2⟩)))))))
 obtain ⟨y3,s3⟩:∃ y,W5.cell? ⟨w.heap.size,3,none⟩=some y:=by rw [← hW5];exact aL (aL (aL (aL (aL (aL (aL (⟨_,r3⟩)))))))
 obtain ⟨y4,s4⟩:∃ y,W5.cell? ⟨w.heap.size,4,none⟩=some y:=by rw [← hW5];exact aL (aL (aL (aL (aL (aL (aL (⟨_,r4⟩)))))))
 obtain ⟨y5,s5⟩:∃ y,W5.cell? ⟨w.heap.size,5,none⟩=some y:=by rw [← hW5];exact aL (aL (aL (aL (aL (aL (aL (⟨_,r5⟩)))))))
 obtain ⟨y6,s6⟩:∃ y,W5.cell? ⟨w.heap.size,6,none⟩=some y:=by rw [← hW5];exact aL (aL (aL (aL (aL (aL (aL (⟨_,r6⟩)))))))
 have g0:W5.cell? ⟨w.heap.size+1+1+1,0,none⟩=some (.int .u32 0):=(hf55.cell (p:=⟨w.heap.size+1+1+1,0,none⟩) hlh (fun h=>by simp only at h;omega)).trans h0
 have g1:W5.cell? ⟨w.heap.size+1+1+1,1,none⟩=some (.slice none 0 0):=(hf55.cell (p:=⟨w.heap.size+1+1+1,1,none⟩) hlh (fun h=>by simp only at h;omega)).trans h1
 rw [hW5]
 obtain ⟨W6,hW6⟩:∃ W6,W5.setCell ⟨w.heap.size+1+1+1,0,none⟩ (.int .u32 (r.2.1:Nat))=W6:=⟨_,rfl⟩
 have hf66:Fr (fun k=>k=w.heap.size+1+1+1) W5 W6:=by rw [← hW6];exact (Fr.refl (fun k=>k=w.heap.size+1+1+1) W5).setCell (.inl rfl) _
 have e0:W6.cell? ⟨w.heap.size+1+1+1,0,none⟩=some (.int .u32 (r.2.1:Nat)):=by rw [← hW6];exact World.cell?_setCell_same _ _ _ g0
 have e1:W6.cell? ⟨w.heap.size+1+1+1,1,none⟩=some (.slice none 0 0):=by
  rw [← hW6,World.cell?_setCell_other _ _ _ _ (by intro h;injection h with _ h2 _;cases h2)]
  exact g1
 have hf06:Fr (fun _=>False) w W6:=((aa H5).2.1.trans hf55 (fun k hk e=>by omega)).trans hf66 (fun k hk e=>by omega)
 have hl5:=hf55.size
 have hlw6:w.heap.size+4≤W6.heap.size:=by have:=hf66.size;omega
 have hb1':W6.heap[w.heap.size+1]?=some (.cells #[.slice none 0 0,.int .i64 0,.int .i64 0,.string ⟨#[]⟩,.string ⟨#[]⟩,.int .i64 0,.int .i64 0] 120):=(hf66.block _ (by omega) (fun h=>by omega)).trans ((hf55.block _ (by omega) (fun h=>by omega)).trans (aa H5).2.2.1)
 have hb2':W6.heap[w.heap.size+1+1]?=some (.cells #[.int .u32 0,.slice none 0 0] 25):=(hf66.block _ (by omega) (fun h=>by omega)).trans ((hf55.block _ (by omega) (fun h=>by omega)).trans (aa H5).2.2.2)
 rw [hW6]
 refine ((aa HM) W6 last' hf06 (aa H5).1).mono ?_
 rintro e w7 ⟨last2,sx,sn,sc,rfl,hsrc,hnew,hl2,hf7⟩
 have t0:w7.cell? ⟨w.heap.size,0,none⟩=some y0:=(hf7.cell (p:=⟨w.heap.size,0,none⟩) (by show w.heap.size<W6.heap.size;omega) (fun h=>h)).trans ((hf66.cell (p:=⟨w.heap.size,0,none⟩) (ab s0) (fun h=>by simp only at h;omega)).trans s0)
 have t1:w7.cell? ⟨w.heap.size,1,none⟩=some y1:=(hf7.cell (p:=⟨w.heap.size,1,none⟩) (by show w.heap.size<W6.heap.size;omega) (fun h=>h)).trans ((hf66.cell (p:=⟨w.heap.size,1,none⟩) (ab s1) (fun h=>by simp only at h;omega)).trans s1)
 have t2:w7.cell? ⟨w.heap.size,2,none⟩=some y2:=(hf7.cell (p:=⟨w.heap.size,2,none⟩) (by show w.heap.size<W6.heap.size;omega) (fun h=>h)).trans ((hf66.cell (p:=⟨w.heap.size,2,none⟩) (ab s2) (fun h=>by simp only at h;omega)).trans s2)
 have t3:w7.cell? ⟨w.heap.size,3,none⟩=some y3:=(hf7.cell (p:=⟨w.heap.size,3,none⟩) (by show w.heap.size<W6.heap.size;omega) (fun h=>h)).trans ((hf66.cell (p:=⟨w.heap.size,3,none⟩) (ab s3) (fun h=>by simp only at h;omega)).trans s3)
 have t4:w7.cell? ⟨w.heap.size,4,none⟩=some y4:=(hf7.cell (p:=⟨w.heap.size,4,none⟩) (by show w.heap.size<W6.heap.size;omega) (fun h=>h)).trans ((hf66.cell (p:=⟨w.heap.size,4,none⟩) (ab s4) (fun h=>by simp only at h;omega)).trans s4)
 have t5:w7.cell? ⟨w.heap.size,5,none⟩=some y5:=(hf7.cell (p:=⟨w.heap.size,5,none⟩) (by show w.heap.size<W6.heap.size;omega) (fun h=>h)).trans ((hf66.cell (p:=⟨w.heap.size,5,none⟩) (ab s5) (fun h=>by simp only at h;omega)).trans s5)
 have t6:w7.cell? ⟨w.heap.size,6,none⟩=some y6:=(hf7.cell (p:=⟨w.heap.size,6,none⟩) (by show w.heap.size<W6.heap.size;omega) (fun h=>h)).trans ((hf66.cell (p:=⟨w.heap.size,6,none⟩) (ab s6) (fun h=>by simp only at h;omega)).trans s6)
 have k0:=(hf7.cell (p:=⟨w.heap.size+1+1+1,0,none⟩) (ab e0) (fun h=>h)).trans e0
 have k1:=(hf7.cell (p:=⟨w.heap.size+1+1+1,1,none⟩) (ab e1) (fun h=>h)).trans e1
 have hc1:=(hf7.block (w.heap.size+1) (by omega) (fun h=>h)).trans hb1'
 have hc2:=(hf7.block (w.heap.size+1+1) (by omega) (fun h=>h)).trans hb2'
 have z0:w7.cell? ⟨w.heap.size+1,0,none⟩=some (.slice none 0 0):=by simp [World.cell?,hc1]
 have z1:w7.cell? ⟨w.heap.size+1,1,none⟩=some (.int .i64 0):=by simp [World.cell?,hc1]
 have z2:w7.cell? ⟨w.heap.size+1,2,none⟩=some (.int .i64 0):=by simp [World.cell?,hc1]
 have z3:w7.cell? ⟨w.heap.size+1,3,none⟩=some (.string ⟨#[]⟩):=by simp [World.cell?,hc1]
 have z4:w7.cell? ⟨w.heap.size+1,4,none⟩=some (.string ⟨#[]⟩):=by simp [World.cell?,hc1]
 have z5:w7.cell? ⟨w.heap.size+1,5,none⟩=some (.int .i64 0):=by simp [World.cell?,hc1]
 have z6:w7.cell? ⟨w.heap.size+1,6,none⟩=some (.int .i64 0):=by simp [World.cell?,hc1]
 have m0:w7.cell? ⟨w.heap.size+1+1,0,none⟩=some (.int .u32 0):=by simp [World.cell?,hc2]
 have m1:w7.cell? ⟨w.heap.size+1+1,1,none⟩=some (.slice none 0 0):=by simp [World.cell?,hc2]
 have f0:∀ i,w7.frozen? ⟨w.heap.size,i,none⟩=false:=fun i=>(hf7.frozen (p:=⟨w.heap.size,i,none⟩) (by show w.heap.size<W6.heap.size;omega) (fun h=>h)).trans (by rw [← hW6,← hW5];simp only [World.frozen?_setCell];exact rz i)
 have f1:∀ i,w7.frozen? ⟨w.heap.size+1,i,none⟩=false:=fun i=>by simp [World.frozen?,hc1]
 have f2:∀ i,w7.frozen? ⟨w.heap.size+1+1,i,none⟩=false:=fun i=>by simp [World.frozen?,hc2]
 have f3:∀ i,w7.frozen? ⟨w.heap.size+1+1+1,i,none⟩=false:=fun i=>(hf7.frozen (p:=⟨w.heap.size+1+1+1,i,none⟩) (by show w.heap.size+1+1+1<W6.heap.size;omega) (fun h=>h)).trans (by rw [← hW6,← hW5];simp only [World.frozen?_setCell];exact hzz i)
 have hlt:=ab t0
 have hlk:=ab k0
 have hlz:=ab z0
 have hlm:=ab m0
 have hnew':∀ g o m c,Value.slice sx sn sc = .slice (some ⟨g,o,none⟩) m c→w.heap.size+4≤g:=fun g o m c e=>Nat.le_trans hlw6 (hnew g o m c e)
 have H7:=ae (And.intro hsrc (And.intro hnew' (And.intro hl2 (hf06.trans hf7 (fun _ _ h=>h)))))
 clear hsrc hnew hnew' hl2 hf7 hf06 hf66 hf55 e0 e1 g0 g1 hb1' hb2' hc1 hc2 hl5 hlw6 hW6 hW5 s0 s1 s2 s3 s4 s5 s6 r0 r1 r2 r3 r4 r5 r6 h0 h1 rz hzz hlr hlh
 go_wp2_with fail
 go_region
 go_wp2_with fail
 refine bodyPost_ret (v:=.tuple #[.agg #[.slice xo len xc,.int .i64 (q.bB.1.at_:Nat),.int .i64 (last2:Nat),.string q.bB.1.nm,.string (bo q.bB.1.f).1,.int .i64 ((bo q.bB.1.f).2.1:Nat),.int .i64 ((bo q.bB.1.f).2.2:Nat)],.agg #[.int .u32 (r.2.1:Nat),.slice sx sn sc]]) (by simp [results,Tryz.results62,go_sem,z0,z1,z2,z3,z4,z5,z6,m0,m1]) rfl ?_
 refine ⟨last2,_,by rw [aa EG],(aa H7).1.fr (S:=fun k=>k=w.heap.size∨k=w.heap.size+1∨k=w.heap.size+1+1∨k=w.heap.size+1+1+1) ?_ (fun g o m c e hx=>by have:=(aa H7).2.1 g o m c e;omega),(fun g o m c e=>by have:=(aa H7).2.1 g o m c e;omega),(aa H7).2.2.1,?_⟩
 ·exact ((((((((((((((((((Fr.refl (fun k=>k=w.heap.size∨k=w.heap.size+1∨k=w.heap.size+1+1∨k=w.heap.size+1+1+1) w7).setCell (.inl (.inl rfl)) _).setCell (.inl (.inl rfl)) _).setCell (.inl (.inl rfl)) _).setCell (.inl (.inl rfl)) _).setCell (.inl (.inl rfl)) _).setCell (.inl (.inl rfl)) _).setCell (.inl (.inl rfl)) _).setCell (.inl (.inr (.inr (.inr rfl)))) _).setCell (.inl (.inr (.inl rfl))) _).setCell (.inl (.inr (.inl rfl))) _).setCell (.inl (.inr (.inl rfl))) _).setCell (.inl (.inr (.inl rfl))) _).setCell (.inl (.inr (.inl rfl))) _).setCell (.inl (.inr (.inl rfl))) _).setCell (.inl (.inr (.inl rfl))) _).setCell (.inl (.inr (.inr (.inl rfl)))) _).setCell (.inl (.inr (.inr (.inl rfl)))) _).drew
 ·exact (((((((((((((((((((aa H7).2.2.2).setCell (.inr (Nat.le_refl _)) _).setCell (.inr (Nat.le_refl _)) _).setCell (.inr (Nat.le_refl _)) _).setCell (.inr (Nat.le_refl _)) _).setCell (.inr (Nat.le_refl _)) _).setCell (.inr (Nat.le_refl _)) _).setCell (.inr (Nat.le_refl _)) _).setCell (.inr (by show w.heap.size≤w.heap.size+1+1+1;omega)) _).setCell (.inr (by show w.heap.size≤w.heap.size+1;omega)) _).setCell (.inr (by show w.heap.size≤w.heap.size+1;omega)) _).setCell (.inr (by show w.heap.size≤w.heap.size+1;omega)) _).setCell (.inr (by show w.heap.size≤w.heap.size+1;omega)) _).setCell (.inr (by show w.heap.size≤w.heap.size+1;omega)) _).setCell (.inr (by show w.heap.size≤w.heap.size+1;omega)) _).setCell (.inr (by show w.heap.size≤w.heap.size+1;omega)) _).setCell (.inr (by show w.heap.size≤w.heap.size+1+1;omega)) _).setCell (.inr (by show w.heap.size≤w.heap.size+1+1;omega)) _).drew
theorem eP {w:World} {b t:Nat} {cs:Array Value} (h:w.heap[b]?=some (.cells cs t)) (o:Nat) (v:Value):(w.setCell ⟨b,o,none⟩ v).heap[b]?=some (.cells (cs.setIfInBounds o v) t):=by
 simp [World.setCell,Array.getElem?_modify,h]
theorem je {w:World} {b t:Nat} {a0 a1 a2 a3 a4 a5 a6:Value} (h:w.heap[b]?=some (.cells #[a0,a1,a2,a3,a4,a5,a6] t)) (v0 v1 v2 v3 v4 v5 v6:Value):(((((((w.setCell ⟨b,0,none⟩ v0).setCell ⟨b,1,none⟩ v1).setCell ⟨b,2,none⟩ v2).setCell ⟨b,3,none⟩ v3).setCell ⟨b,4,none⟩ v4).setCell ⟨b,5,none⟩ v5).setCell ⟨b,6,none⟩ v6).heap[b]?=some (.cells #[v0,v1,v2,v3,v4,v5,v6] t):=by
 rw [eP (eP (eP (eP (eP (eP (eP h 0 v0) 1 v1) 2 v2) 3 v3) 4 v4) 5 v5) 6 v6]
 simp
theorem qe {S:Nat→Prop} {w w':World} (h:Fr S w w') {b:Nat} (hb:S b∨w.heap.size≤b) (v0 v1 v2 v3 v4 v5 v6:Value):Fr S w (((((((w'.setCell ⟨b,0,none⟩ v0).setCell ⟨b,1,none⟩ v1).setCell ⟨b,2,none⟩ v2).setCell ⟨b,3,none⟩ v3).setCell ⟨b,4,none⟩ v4).setCell ⟨b,5,none⟩ v5).setCell ⟨b,6,none⟩ v6):=((((((h.setCell hb _).setCell hb _).setCell hb _).setCell hb _).setCell hb _).setCell hb _).setCell hb _
theorem wP (w:World) (a b c:Obj):(((w.alloc a).alloc b).alloc c).heap[w.heap.size]?=some a∧(((w.alloc a).alloc b).alloc c).heap[w.heap.size+1]?=some b∧(((w.alloc a).alloc b).alloc c).heap[w.heap.size+1+1]?=some c∧(((w.alloc a).alloc b).alloc c).heap.size=w.heap.size+3:=by
 have h3:=oJ w a b c
 have s2:((w.alloc a).alloc b).heap.size=w.heap.size+1+1:=by simp
 refine ⟨h3.1,h3.2.1,?_,h3.2.2⟩
 rw [← s2]
 exact heap_alloc_new _ c
def Q.cf (q:Q) (nm:ByteArray) (k:Int):Q × Nat:=(((q.ah nm).go k 0).1,((q.ah nm).go k 0).2.1)
theorem Q.dP (q:Q) (nm:ByteArray) (k:Int):(q.cf nm k).1.all=q.all:=by
 show ((q.ah nm).go k 0).1.all=q.all
 rw [Q.go_all,Q.ba]
theorem Q.fI {q:Q} (h:q.ok) (nm:ByteArray) (k:Int):(q.cf nm k).1.ok:=Q.go_ok (Q.cP h nm) _ _
theorem gG (q:Q) (nm:ByteArray) (k:Int) (xo:Option Addr) (len xc last:Nat) (w w':World) (hf:Fr (fun _=>False) w w') (hlen:q.all.length=len) (hq:q.ok) (hx:Src w (.slice xo len xc) q.all) (hlc:len≤xc) (hl:len≤16777216) (hk:k=1∨k=4∨k=5) (hla:q.f=none→last=q.part) :
  Calls Tryz.prog 98 #[.agg (q.rv xo len xc last),.string nm,.int .i64 k] w' fun e w''=>∃ last':Nat,e = .returned (.tuple #[.agg ((q.cf nm k).1.rv xo len xc last'),.int .u64 ((q.cf nm k).2:Nat)])∧((q.cf nm k).1.f=none→last'=(q.cf nm k).1.part)∧Fr (fun _=>False) w' w'':=by
 subst hlen
 have hg:=nh q nm k xo xc last w' hq (hx.fr hf (fun _ _ _ _ _ h=>h)) hlc hl hk hla
 rw [Q.dx rfl] at hg
 refine hg.mono ?_
 rintro e w'' ⟨last',rfl,h1,h2⟩
 exact ⟨last',by rw [Q.dx (show ((q.ah nm).go k 0).1.all.length=q.all.length by rw [Q.go_all,Q.ba])];rfl,h1,h2⟩
def Q.gid (q:Q):Q × Nat × Nat:=(((q.cf da 4).1.cf eD 4).1,(q.cf da 4).2,((q.cf da 4).1.cf eD 4).2)
theorem vK (q:Q) (xo:Option Addr) (len xc last:Nat) (w:World) (hlen:q.all.length=len) (hq:q.ok) (hx:Src w (.slice xo len xc) q.all) (hlc:len≤xc) (hl:len≤16777216) (hla:q.f=none→last=q.part) :
  Calls Tryz.prog 100 #[.agg (q.rv xo len xc last)] w fun e w'=>∃ last':Nat,e = .returned (.tuple #[.agg (q.gid.1.rv xo len xc last'),.agg #[.int .u32 (q.gid.2.1:Nat),.int .u32 (q.gid.2.2:Nat)]])∧(q.gid.1.f=none→last'=q.gid.1.part)∧Fr (fun _=>False) w w':=by
 obtain ⟨r,hr⟩:∃ r,r=q.cf da 4:=⟨_,rfl⟩
 obtain ⟨s,hs⟩:∃ s,s=r.1.cf eD 4:=⟨_,rfl⟩
 have hall:r.1.all=q.all:=by rw [hr,Q.dP]
 have hrok:r.1.ok:=by rw [hr];exact Q.fI hq _ _
 have hrv:r.2<4294967296:=by rw [hr];exact Q.go_lt _ 4 0
 have hsv:s.2<4294967296:=by rw [hs];exact Q.go_lt _ 4 0
 have hg:q.gid=(s.1,r.2,s.2):=by rw [hs,hr];rfl
 have HN:Hid (∀ w',Fr (fun _=>False) w w'→Calls Tryz.prog 98 #[.agg (q.rv xo len xc last),.string da,.int .i64 4] w' fun e w''=>∃ last':Nat,e = .returned (.tuple #[.agg (r.1.rv xo len xc last'),.int .u64 (r.2:Nat)])∧(r.1.f=none→last'=r.1.part)∧Fr (fun _=>False) w' w''):=fun w' hf=>by
  rw [hr];exact gG q da 4 xo len xc last w w' hf hlen hq hx hlc hl (.inr (.inl rfl)) hla
 have HM:Hid (∀ w' (last':Nat),Fr (fun _=>False) w w'→(r.1.f=none→last'=r.1.part)→Calls Tryz.prog 98 #[.agg (r.1.rv xo len xc last'),.string eD,.int .i64 4] w' fun e w''=>∃ last2:Nat,e = .returned (.tuple #[.agg (s.1.rv xo len xc last2),.int .u64 (s.2:Nat)])∧(s.1.f=none→last2=s.1.part)∧Fr (fun _=>False) w' w''):=fun w' last' hf h=>by
  rw [hs];exact gG r.1 eD 4 xo len xc last' w w' hf (by rw [hall];exact hlen) hrok (by rw [hall];exact hx) hlc hl (.inr (.inl rfl)) h
 rw [hg]
 clear hr hs hall hrok hx hlc hl hg hla hq hlen
 unfold Q.rv at *
 go_enter Tryz.func100,Tryz.ntmps100
 go_wp2_with fail
 refine ((aa HN) _ (aO _ _ _ _)).mono ?_
 rintro e w5 ⟨last',rfl,hla,hf5⟩
 have hs3:=wP w (.cells #[.slice xo len xc,.int .i64 (q.at_:Nat),.int .i64 (last:Nat),.string q.nm,.string (bo q.f).1,.int .i64 ((bo q.f).2.1:Nat),.int .i64 ((bo q.f).2.2:Nat)] 120) (.cells #[.slice none 0 0,.int .i64 0,.int .i64 0,.string ⟨#[]⟩,.string ⟨#[]⟩,.int .i64 0,.int .i64 0] 120) (.cells #[.int .u32 0,.int .u32 0] 27)
 have hb0:=(hf5.block (w.heap.size) (by rw [hs3.2.2.2];omega) (fun h=>h)).trans hs3.1
 have hb1:=(hf5.block (w.heap.size+1) (by rw [hs3.2.2.2];omega) (fun h=>h)).trans hs3.2.1
 have hb2:=(hf5.block (w.heap.size+1+1) (by rw [hs3.2.2.2];omega) (fun h=>h)).trans hs3.2.2.1
 have r0:w5.cell? ⟨w.heap.size,0,none⟩=some (.slice xo len xc):=by simp [World.cell?,hb0]
 have r1:w5.cell? ⟨w.heap.size,1,none⟩=some (.int .i64 (q.at_:Nat)):=by simp [World.cell?,hb0]
 have r2:w5.cell? ⟨w.heap.size,2,none⟩=some (.int .i64 (last:Nat)):=by simp [World.cell?,hb0]
 have r3:w5.cell? ⟨w.heap.size,3,none⟩=some (.string q.nm):=by simp [World.cell?,hb0]
 have r4:w5.cell? ⟨w.heap.size,4,none⟩=some (.string (bo q.f).1):=by simp [World.cell?,hb0]
 have r5:w5.cell? ⟨w.heap.size,5,none⟩=some (.int .i64 ((bo q.f).2.1:Nat)):=by simp [World.cell?,hb0]
 have r6:w5.cell? ⟨w.heap.size,6,none⟩=some (.int .i64 ((bo q.f).2.2:Nat)):=by simp [World.cell?,hb0]
 have rz:∀ i,w5.frozen? ⟨w.heap.size,i,none⟩=false:=fun i=>by simp [World.frozen?,hb0]
 have hlr:=ab r0
 have hl3:w.heap.size+3≤w5.heap.size:=by have:=hf5.size;rw [hs3.2.2.2] at this;exact this
 have H5:=ae (And.intro hla (And.intro ((aO _ _ _ _).trans hf5 (fun _ _ h=>h)) (And.intro hb0 (And.intro hb1 (And.intro hb2 hl3)))))
 clear hla hf5 hs3 hb0 hb1 hb2 hl3
 go_wp2_with fail
 obtain ⟨W5,hW5⟩:∃ W5,(((((((w5.setCell ⟨w.heap.size,0,none⟩ (.slice xo len xc)).setCell ⟨w.heap.size,1,none⟩ (.int .i64 (r.1.at_:Nat))).setCell ⟨w.heap.size,2,none⟩ (.int .i64 (last':Nat))).setCell ⟨w.heap.size,3,none⟩ (.string r.1.nm)).setCell ⟨w.heap.size,4,none⟩ (.string (bo r.1.f).1)).setCell ⟨w.heap.size,5,none⟩ (.int .i64 ((bo r.1.f).2.1:Nat))).setCell ⟨w.heap.size,6,none⟩ (.int .i64 ((bo r.1.f).2.2:Nat)))=W5:=⟨_,rfl⟩
 have hB0:W5.heap[w.heap.size]?=some (.cells #[.slice xo len xc,.int .i64 (r.1.at_:Nat),.int .i64 (last':Nat),.string r.1.nm,.string (bo r.1.f).1,.int .i64 ((bo r.1.f).2.1:Nat),.int .i64 ((bo r.1.f).2.2:Nat)] 120):=by rw [← hW5];exact je (aa H5).2.2.1 _ _ _ _ _ _ _
 have hf55:Fr (fun k=>k=w.heap.size) w5 W5:=by rw [← hW5];exact qe (Fr.refl (fun k=>k=w.heap.size) w5) (.inl rfl) _ _ _ _ _ _ _
 have hl5:=(aa H5).2.2.2.2.2
 have hB1:=(hf55.block (w.heap.size+1) (by omega) (fun h=>by omega)).trans (aa H5).2.2.2.1
 have hB2:=(hf55.block (w.heap.size+1+1) (by omega) (fun h=>by omega)).trans (aa H5).2.2.2.2.1
 have hf05:Fr (fun _=>False) w W5:=(aa H5).2.1.trans hf55 (fun k hk e=>by omega)
 have hlW:=hf55.size
 rw [hW5]
 refine ((aa HM) W5 last' hf05 (aa H5).1).mono ?_
 rintro e w7 ⟨last2,rfl,hl2,hf7⟩
 have hc0:=(hf7.block (w.heap.size) (by omega) (fun h=>h)).trans hB0
 have hc1:=(hf7.block (w.heap.size+1) (by omega) (fun h=>h)).trans hB1
 have hc2:=(hf7.block (w.heap.size+1+1) (by omega) (fun h=>h)).trans hB2
 have t0:w7.cell? ⟨w.heap.size,0,none⟩=some (.slice xo len xc):=by simp [World.cell?,hc0]
 have t1:w7.cell? ⟨w.heap.size,1,none⟩=some (.int .i64 (r.1.at_:Nat)):=by simp [World.cell?,hc0]
 have t2:w7.cell? ⟨w.heap.size,2,none⟩=some (.int .i64 (last':Nat)):=by simp [World.cell?,hc0]
 have t3:w7.cell? ⟨w.heap.size,3,none⟩=some (.string r.1.nm):=by simp [World.cell?,hc0]
 have t4:w7.cell? ⟨w.heap.size,4,none⟩=some (.string (bo r.1.f).1):=by simp [World.cell?,hc0]
 have t5:w7.cell? ⟨w.heap.size,5,none⟩=some (.int .i64 ((bo r.1.f).2.1:Nat)):=by simp [World.cell?,hc0]
 have t6:w7.cell? ⟨w.heap.size,6,none⟩=some (.int .i64 ((bo r.1.f).2.2:Nat)):=by simp [World.cell?,hc0]
 have z0:w7.cell? ⟨w.heap.size+1,0,none⟩=some (.slice none 0 0):=by simp [World.cell?,hc1]
 have z1:w7.cell? ⟨w.heap.size+1,1,none⟩=some (.int .i64 0):=by simp [World.cell?,hc1]
 have z2:w7.cell? ⟨w.heap.size+1,2,none⟩=some (.int .i64 0):=by simp [World.cell?,hc1]
 have z3:w7.cell? ⟨w.heap.size+1,3,none⟩=some (.string ⟨#[]⟩):=by simp [World.cell?,hc1]
 have z4:w7.cell? ⟨w.heap.size+1,4,none⟩=some (.string ⟨#[]⟩):=by simp [World.cell?,hc1]
 have z5:w7.cell? ⟨w.heap.size+1,5,none⟩=some (.int .i64 0):=by simp [World.cell?,hc1]
 have z6:w7.cell? ⟨w.heap.size+1,6,none⟩=some (.int .i64 0):=by simp [World.cell?,hc1]
 have m0:w7.cell? ⟨w.heap.size+1+1,0,none⟩=some (.int .u32 0):=by simp [World.cell?,hc2]
 have m1:w7.cell? ⟨w.heap.size+1+1,1,none⟩=some (.int .u32 0):=by simp [World.cell?,hc2]
 have f0:∀ i,w7.frozen? ⟨w.heap.size,i,none⟩=false:=fun i=>by simp [World.frozen?,hc0]
 have f1:∀ i,w7.frozen? ⟨w.heap.size+1,i,none⟩=false:=fun i=>by simp [World.frozen?,hc1]
 have f2:∀ i,w7.frozen? ⟨w.heap.size+1+1,i,none⟩=false:=fun i=>by simp [World.frozen?,hc2]
 have hlt:=ab t0
 have hlz:=ab z0
 have hlm:=ab m0
 have H7:=ae (And.intro hl2 (hf05.trans hf7 (fun _ _ h=>h)))
 clear hl2 hf7 hf05 hf55 hB0 hB1 hB2 hc0 hc1 hc2 hl5 hlW hW5 r0 r1 r2 r3 r4 r5 r6 rz hlr
 go_wp2_with fail
 refine bodyPost_ret (v:=.tuple #[.agg #[.slice xo len xc,.int .i64 (s.1.at_:Nat),.int .i64 (last2:Nat),.string s.1.nm,.string (bo s.1.f).1,.int .i64 ((bo s.1.f).2.1:Nat),.int .i64 ((bo s.1.f).2.2:Nat)],.agg #[.int .u32 (r.2:Nat),.int .u32 (s.2:Nat)]]) (by simp [results,Tryz.results100,go_sem,z0,z1,z2,z3,z4,z5,z6,m0,m1]) rfl ?_
 exact ⟨last2,rfl,(aa H7).1,((qe (qe (aa H7).2 (.inr (Nat.le_refl _)) _ _ _ _ _ _ _) (.inr (Nat.le_succ _)) _ _ _ _ _ _ _).setCell (.inr (by show w.heap.size≤w.heap.size+1+1;omega)) _).setCell (.inr (by show w.heap.size≤w.heap.size+1+1;omega)) _⟩
theorem lO (q:Q) (xo:Option Addr) (len xc last:Nat) (so:Bool) (n:Nat) (w:World) (hlen:q.all.length=len) (hq:q.ok) (hn:1≤n) (hla:q.f=none→last=q.part) :
  Calls Tryz.prog 99 #[.agg (q.rv xo len xc last),.bool so,.int .i64 (n:Nat)] w fun e w'=>∃ last':Nat,e = .returned (.agg ((q.ai (if so then n else 0)).rv xo len xc last'))∧((q.ai (if so then n else 0)).f=none→last'=(q.ai (if so then n else 0)).part)∧Fr (fun _=>False) w w':=by
 subst hlen
 have hg:=mR q xo xc last so n w hq hn hla
 rw [Q.dx rfl] at hg
 refine hg.mono ?_
 rintro e w'' ⟨last',rfl,h1,h2⟩
 exact ⟨last',by rw [Q.dx (show (q.ai (if so then n else 0)).all.length=q.all.length by rw [Q.bZ])],h1,h2⟩
def Q.eX (q:Q):Q × Nat:=((q.cf fE 1).1.ai (if 10<(q.cf fE 1).2 then 5 else 0),(q.cf fE 1).2)
theorem pL (q:Q) (xo:Option Addr) (len xc last:Nat) (w:World) (hlen:q.all.length=len) (hq:q.ok) (hx:Src w (.slice xo len xc) q.all) (hlc:len≤xc) (hl:len≤16777216) (hla:q.f=none→last=q.part) :
  Calls Tryz.prog 104 #[.agg (q.rv xo len xc last)] w fun e w'=>∃ last':Nat,e = .returned (.tuple #[.agg (q.eX.1.rv xo len xc last'),.int .u8 (q.eX.2:Nat)])∧(q.eX.1.f=none→last'=q.eX.1.part)∧Fr (fun _=>False) w w':=by
 obtain ⟨r,hr⟩:∃ r,r=q.cf fE 1:=⟨_,rfl⟩
 obtain ⟨s,hs⟩:∃ s,s=r.1.ai (if 10<r.2 then 5 else 0):=⟨_,rfl⟩
 have hall:r.1.all=q.all:=by rw [hr,Q.dP]
 have hrok:r.1.ok:=by rw [hr];exact Q.fI hq _ _
 have hrv:r.2<256:=by rw [hr];exact Q.go_lt _ 1 0
 have hg:q.eX=(s,r.2):=by rw [hs,hr];rfl
 have HN:Hid (∀ w',Fr (fun _=>False) w w'→Calls Tryz.prog 98 #[.agg (q.rv xo len xc last),.string fE,.int .i64 1] w' fun e w''=>∃ last':Nat,e = .returned (.tuple #[.agg (r.1.rv xo len xc last'),.int .u64 (r.2:Nat)])∧(r.1.f=none→last'=r.1.part)∧Fr (fun _=>False) w' w''):=fun w' hf=>by
  rw [hr];exact gG q fE 1 xo len xc last w w' hf hlen hq hx hlc hl (.inl rfl) hla
 have HM:Hid (∀ w' (last':Nat),Fr (fun _=>False) w w'→(r.1.f=none→last'=r.1.part)→Calls Tryz.prog 99 #[.agg (r.1.rv xo len xc last'),.bool (decide ((r.2:Int) > 10)),.int .i64 5] w' fun e w''=>∃ last2:Nat,e = .returned (.agg (s.rv xo len xc last2))∧(s.f=none→last2=s.part)∧Fr (fun _=>False) w' w''):=fun w' last' hf h=>by
  have hb:=lO r.1 xo len xc last' (decide ((r.2:Int) > 10)) 5 w' (by rw [hall];exact hlen) hrok (by decide) h
  rw [show r.1.ai (if (decide ((r.2:Int) > 10))=true then 5 else 0)=s by rw [hs];congr 1;by_cases h:10<r.2 <;> simp [h] <;> omega] at hb
  exact hb
 rw [hg]
 clear hr hs hall hrok hx hlc hl hg hla hq hlen
 unfold Q.rv at *
 go_enter Tryz.func104,Tryz.ntmps104
 go_wp2_with fail
 refine ((aa HN) _ (aZ _ _ _)).mono ?_
 rintro e w5 ⟨last',rfl,hla,hf5⟩
 have hs3:=uo w (.cells #[.slice xo len xc,.int .i64 (q.at_:Nat),.int .i64 (last:Nat),.string q.nm,.string (bo q.f).1,.int .i64 ((bo q.f).2.1:Nat),.int .i64 ((bo q.f).2.2:Nat)] 120) (.cells #[.slice none 0 0,.int .i64 0,.int .i64 0,.string ⟨#[]⟩,.string ⟨#[]⟩,.int .i64 0,.int .i64 0] 120)
 have hb0:=(hf5.block (w.heap.size) (by rw [hs3.2.2];omega) (fun h=>h)).trans hs3.1
 have hb1:=(hf5.block (w.heap.size+1) (by rw [hs3.2.2];omega) (fun h=>h)).trans hs3.2.1
 have r0:w5.cell? ⟨w.heap.size,0,none⟩=some (.slice xo len xc):=by simp [World.cell?,hb0]
 have r1:w5.cell? ⟨w.heap.size,1,none⟩=some (.int .i64 (q.at_:Nat)):=by simp [World.cell?,hb0]
 have r2:w5.cell? ⟨w.heap.size,2,none⟩=some (.int .i64 (last:Nat)):=by simp [World.cell?,hb0]
 have r3:w5.cell? ⟨w.heap.size,3,none⟩=some (.string q.nm):=by simp [World.cell?,hb0]
 have r4:w5.cell? ⟨w.heap.size,4,none⟩=some (.string (bo q.f).1):=by simp [World.cell?,hb0]
 have r5:w5.cell? ⟨w.heap.size,5,none⟩=some (.int .i64 ((bo q.f).2.1:Nat)):=by simp [World.cell?,hb0]
 have r6:w5.cell? ⟨w.heap.size,6,none⟩=some (.int .i64 ((bo q.f).2.2:Nat)):=by simp [World.cell?,hb0]
 have rz:∀ i,w5.frozen? ⟨w.heap.size,i,none⟩=false:=fun i=>by simp [World.frozen?,hb0]
 have hlr:=ab r0
 have hl3:w.heap.size+2≤w5.heap.size:=by have:=hf5.size;rw [hs3.2.2] at this;exact this
 have H5:=ae (And.intro hla (And.intro ((aZ _ _ _).trans hf5 (fun _ _ h=>h)) (And.intro hb0 (And.intro hb1 hl3))))
 clear hla hf5 hs3 hb0 hb1 hl3
 go_wp2_with fail
 obtain ⟨W5,hW5⟩:∃ W5,(((((((w5.setCell ⟨w.heap.size,0,none⟩ (.slice xo len xc)).setCell ⟨w.heap.size,1,none⟩ (.int .i64 (r.1.at_:Nat))).setCell ⟨w.heap.size,2,none⟩ (.int .i64 (last':Nat))).setCell ⟨w.heap.size,3,none⟩ (.string r.1.nm)).setCell ⟨w.heap.size,4,none⟩ (.string (bo r.1.f).1)).setCell ⟨w.heap.size,5,none⟩ (.int .i64 ((bo r.1.f).2.1:Nat))).setCell ⟨w.heap.size,6,none⟩ (.int .i64 ((bo r.1.f).2.2:Nat)))=W5:=⟨_,rfl⟩
 have hB0:W5.heap[w.heap.size]?=some (.cells #[.slice xo len xc,.int .i64 (r.1.at_:Nat),.int .i64 (last':Nat),.string r.1.nm,.string (bo r.1.f).1,.int .i64 ((bo r.1.f).2.1:Nat),.int .i64 ((bo r.1.f).2.2:Nat)] 120):=by rw [← hW5];exact je (aa H5).2.2.1 _ _ _ _ _ _ _
 have hf55:Fr (fun k=>k=w.heap.size) w5 W5:=by rw [← hW5];exact qe (Fr.refl (fun k=>k=w.heap.size) w5) (.inl rfl) _ _ _ _ _ _ _
 have hl5:=(aa H5).2.2.2.2
 have hB1:=(hf55.block (w.heap.size+1) (by omega) (fun h=>by omega)).trans (aa H5).2.2.2.1
 have hf05:Fr (fun _=>False) w W5:=(aa H5).2.1.trans hf55 (fun k hk e=>by omega)
 have hlW:=hf55.size
 rw [hW5]
 refine ((aa HM) W5 last' hf05 (aa H5).1).mono ?_
 rintro e w7 ⟨last2,rfl,hl2,hf7⟩
 have hc1:=(hf7.block (w.heap.size+1) (by omega) (fun h=>h)).trans hB1
 have z0:w7.cell? ⟨w.heap.size+1,0,none⟩=some (.slice none 0 0):=by simp [World.cell?,hc1]
 have z1:w7.cell? ⟨w.heap.size+1,1,none⟩=some (.int .i64 0):=by simp [World.cell?,hc1]
 have z2:w7.cell? ⟨w.heap.size+1,2,none⟩=some (.int .i64 0):=by simp [World.cell?,hc1]
 have z3:w7.cell? ⟨w.heap.size+1,3,none⟩=some (.string ⟨#[]⟩):=by simp [World.cell?,hc1]
 have z4:w7.cell? ⟨w.heap.size+1,4,none⟩=some (.string ⟨#[]⟩):=by simp [World.cell?,hc1]
 have z5:w7.cell? ⟨w.heap.size+1,5,none⟩=some (.int .i64 0):=by simp [World.cell?,hc1]
 have z6:w7.cell? ⟨w.heap.size+1,6,none⟩=some (.int .i64 0):=by simp [World.cell?,hc1]
 have f1:∀ i,w7.frozen? ⟨w.heap.size+1,i,none⟩=false:=fun i=>by simp [World.frozen?,hc1]
 have hlz:=ab z0
 have H7:=ae (And.intro hl2 (hf05.trans hf7 (fun _ _ h=>h)))
 clear hl2 hf7 hf05 hf55 hB0 hB1 hc1 hl5 hlW hW5 r0 r1 r2 r3 r4 r5 r6 rz hlr
 go_wp2_with fail
 refine bodyPost_ret (v:=.tuple #[.agg #[.slice xo len xc,.int .i64 (s.at_:Nat),.int .i64 (last2:Nat),.string s.nm,.string (bo s.f).1,.int .i64 ((bo s.f).2.1:Nat),.int .i64 ((bo s.f).2.2:Nat)],.int .u8 (r.2:Nat)]) (by simp [results,Tryz.results104,go_sem,z0,z1,z2,z3,z4,z5,z6]) rfl ?_
 exact ⟨last2,rfl,(aa H7).1,qe (aa H7).2 (.inr (Nat.le_succ _)) _ _ _ _ _ _ _⟩
def Q.cB (q:Q) (nm:ByteArray) (used:Bool):Q × Nat:=((q.cf nm 4).1.ai (if used=false∧(q.cf nm 4).2≠0 then 4 else 0),(q.cf nm 4).2)
theorem vV (q:Q) (nm:ByteArray) (xo:Option Addr) (len xc last:Nat) (w:World) (hlen:q.all.length=len) (hq:q.ok) (hx:Src w (.slice xo len xc) q.all) (hlc:len≤xc) (hl:len≤16777216) (hla:q.f=none→last=q.part) :
  Calls Tryz.prog 101 #[.agg (q.rv xo len xc last),.string nm,.bool false] w fun e w'=>∃ last':Nat,e = .returned (.tuple #[.agg ((q.cB nm false).1.rv xo len xc last'),.int .u32 ((q.cB nm false).2:Nat)])∧((q.cB nm false).1.f=none→last'=(q.cB nm false).1.part)∧Fr (fun _=>False) w w':=by
 obtain ⟨r,hr⟩:∃ r,r=q.cf nm 4:=⟨_,rfl⟩
 obtain ⟨s,hs⟩:∃ s,s=r.1.ai (if r.2≠0 then 4 else 0):=⟨_,rfl⟩
 have hall:r.1.all=q.all:=by rw [hr,Q.dP]
 have hrok:r.1.ok:=by rw [hr];exact Q.fI hq _ _
 have hrv:r.2<4294967296:=by rw [hr];exact Q.go_lt _ 4 0
 have hg:(q.cB nm false)=(s,r.2):=by rw [hs,hr];simp [Q.cB]
 have HN:Hid (∀ w',Fr (fun _=>False) w w'→Calls Tryz.prog 98 #[.agg (q.rv xo len xc last),.string nm,.int .i64 4] w' fun e w''=>∃ last':Nat,e = .returned (.tuple #[.agg (r.1.rv xo len xc last'),.int .u64 (r.2:Nat)])∧(r.1.f=none→last'=r.1.part)∧Fr (fun _=>False) w' w''):=fun w' hf=>by
  rw [hr];exact gG q nm 4 xo len xc last w w' hf hlen hq hx hlc hl (.inr (.inl rfl)) hla
 have HM:Hid (∀ w' (last':Nat),Fr (fun _=>False) w w'→(r.1.f=none→last'=r.1.part)→Calls Tryz.prog 99 #[.agg (r.1.rv xo len xc last'),.bool (((r.2:Int) != 0)),.int .i64 4] w' fun e w''=>∃ last2:Nat,e = .returned (.agg (s.rv xo len xc last2))∧(s.f=none→last2=s.part)∧Fr (fun _=>False) w' w''):=fun w' last' hf h=>by
  have hb:=lO r.1 xo len xc last' (((r.2:Int) != 0)) 4 w' (by rw [hall];exact hlen) hrok (by decide) h
  rw [show r.1.ai (if (((r.2:Int) != 0))=true then 4 else 0)=s by rw [hs];congr 1;by_cases h:r.2=0 <;> simp [h]] at hb
  exact hb
 rw [hg]
 clear hr hs hall hrok hx hlc hl hg hla hq hlen
 unfold Q.rv at *
 go_enter Tryz.func101,Tryz.ntmps101
 go_wp2_with fail
 refine ((aa HN) _ (aZ _ _ _)).mono ?_
 rintro e w5 ⟨last',rfl,hla,hf5⟩
 have hs3:=uo w (.cells #[.slice xo len xc,.int .i64 (q.at_:Nat),.int .i64 (last:Nat),.string q.nm,.string (bo q.f).1,.int .i64 ((bo q.f).2.1:Nat),.int .i64 ((bo q.f).2.2:Nat)] 120) (.cells #[.slice none 0 0,.int .i64 0,.int .i64 0,.string ⟨#[]⟩,.string ⟨#[]⟩,.int .i64 0,.int .i64 0] 120)
 have hb0:=(hf5.block (w.heap.size) (by rw [hs3.2.2];omega) (fun h=>h)).trans hs3.1
 have hb1:=(hf5.block (w.heap.size+1) (by rw [hs3.2.2];omega) (fun h=>h)).trans hs3.2.1
 have r0:w5.cell? ⟨w.heap.size,0,none⟩=some (.slice xo len xc):=by simp [World.cell?,hb0]
 have r1:w5.cell? ⟨w.heap.size,1,none⟩=some (.int .i64 (q.at_:Nat)):=by simp [World.cell?,hb0]
 have r2:w5.cell? ⟨w.heap.size,2,none⟩=some (.int .i64 (last:Nat)):=by simp [World.cell?,hb0]
 have r3:w5.cell? ⟨w.heap.size,3,none⟩=some (.string q.nm):=by simp [World.cell?,hb0]
 have r4:w5.cell? ⟨w.heap.size,4,none⟩=some (.string (bo q.f).1):=by simp [World.cell?,hb0]
 have r5:w5.cell? ⟨w.heap.size,5,none⟩=some (.int .i64 ((bo q.f).2.1:Nat)):=by simp [World.cell?,hb0]
 have r6:w5.cell? ⟨w.heap.size,6,none⟩=some (.int .i64 ((bo q.f).2.2:Nat)):=by simp [World.cell?,hb0]
 have rz:∀ i,w5.frozen? ⟨w.heap.size,i,none⟩=false:=fun i=>by simp [World.frozen?,hb0]
 have hlr:=ab r0
 have hl3:w.heap.size+2≤w5.heap.size:=by have:=hf5.size;rw [hs3.2.2] at this;exact this
 have H5:=ae (And.intro hla (And.intro ((aZ _ _ _).trans hf5 (fun _ _ h=>h)) (And.intro hb0 (And.intro hb1 hl3))))
 clear hla hf5 hs3 hb0 hb1 hl3
 go_wp2_with fail
 obtain ⟨W5,hW5⟩:∃ W5,(((((((w5.setCell ⟨w.heap.size,0,none⟩ (.slice xo len xc)).setCell ⟨w.heap.size,1,none⟩ (.int .i64 (r.1.at_:Nat))).setCell ⟨w.heap.size,2,none⟩ (.int .i64 (last':Nat))).setCell ⟨w.heap.size,3,none⟩ (.string r.1.nm)).setCell ⟨w.heap.size,4,none⟩ (.string (bo r.1.f).1)).setCell ⟨w.heap.size,5,none⟩ (.int .i64 ((bo r.1.f).2.1:Nat))).setCell ⟨w.heap.size,6,none⟩ (.int .i64 ((bo r.1.f).2.2:Nat)))=W5:=⟨_,rfl⟩
 have hB0:W5.heap[w.heap.size]?=some (.cells #[.slice xo len xc,.int .i64 (r.1.at_:Nat),.int .i64 (last':Nat),.string r.1.nm,.string (bo r.1.f).1,.int .i64 ((bo r.1.f).2.1:Nat),.int .i64 ((bo r.1.f).2.2:Nat)] 120):=by rw [← hW5];exact je (aa H5).2.2.1 _ _ _ _ _ _ _
 have hf55:Fr (fun k=>k=w.heap.size) w5 W5:=by rw [← hW5];exact qe (Fr.refl (fun k=>k=w.heap.size) w5) (.inl rfl) _ _ _ _ _ _ _
 have hl5:=(aa H5).2.2.2.2
 have hB1:=(hf55.block (w.heap.size+1) (by omega) (fun h=>by omega)).trans (aa H5).2.2.2.1
 have hf05:Fr (fun _=>False) w W5:=(aa H5).2.1.trans hf55 (fun k hk e=>by omega)
 have hlW:=hf55.size
 rw [hW5]
 refine ((aa HM) W5 last' hf05 (aa H5).1).mono ?_
 rintro e w7 ⟨last2,rfl,hl2,hf7⟩
 have hc1:=(hf7.block (w.heap.size+1) (by omega) (fun h=>h)).trans hB1
 have z0:w7.cell? ⟨w.heap.size+1,0,none⟩=some (.slice none 0 0):=by simp [World.cell?,hc1]
 have z1:w7.cell? ⟨w.heap.size+1,1,none⟩=some (.int .i64 0):=by simp [World.cell?,hc1]
 have z2:w7.cell? ⟨w.heap.size+1,2,none⟩=some (.int .i64 0):=by simp [World.cell?,hc1]
 have z3:w7.cell? ⟨w.heap.size+1,3,none⟩=some (.string ⟨#[]⟩):=by simp [World.cell?,hc1]
 have z4:w7.cell? ⟨w.heap.size+1,4,none⟩=some (.string ⟨#[]⟩):=by simp [World.cell?,hc1]
 have z5:w7.cell? ⟨w.heap.size+1,5,none⟩=some (.int .i64 0):=by simp [World.cell?,hc1]
 have z6:w7.cell? ⟨w.heap.size+1,6,none⟩=some (.int .i64 0):=by simp [World.cell?,hc1]
 have f1:∀ i,w7.frozen? ⟨w.heap.size+1,i,none⟩=false:=fun i=>by simp [World.frozen?,hc1]
 have hlz:=ab z0
 have H7:=ae (And.intro hl2 (hf05.trans hf7 (fun _ _ h=>h)))
 clear hl2 hf7 hf05 hf55 hB0 hB1 hc1 hl5 hlW hW5 r0 r1 r2 r3 r4 r5 r6 rz hlr
 go_wp2_with fail
 refine bodyPost_ret (v:=.tuple #[.agg #[.slice xo len xc,.int .i64 (s.at_:Nat),.int .i64 (last2:Nat),.string s.nm,.string (bo s.f).1,.int .i64 ((bo s.f).2.1:Nat),.int .i64 ((bo s.f).2.2:Nat)],.int .u32 (r.2:Nat)]) (by simp [results,Tryz.results101,go_sem,z0,z1,z2,z3,z4,z5,z6]) rfl ?_
 exact ⟨last2,rfl,(aa H7).1,qe (aa H7).2 (.inr (Nat.le_succ _)) _ _ _ _ _ _ _⟩
theorem uK (q:Q) (nm:ByteArray) (xo:Option Addr) (len xc last:Nat) (w:World) (hlen:q.all.length=len) (hq:q.ok) (hx:Src w (.slice xo len xc) q.all) (hlc:len≤xc) (hl:len≤16777216) (hla:q.f=none→last=q.part) :
  Calls Tryz.prog 101 #[.agg (q.rv xo len xc last),.string nm,.bool true] w fun e w'=>∃ last':Nat,e = .returned (.tuple #[.agg ((q.cB nm true).1.rv xo len xc last'),.int .u32 ((q.cB nm true).2:Nat)])∧((q.cB nm true).1.f=none→last'=(q.cB nm true).1.part)∧Fr (fun _=>False) w w':=by
 obtain ⟨r,hr⟩:∃ r,r=q.cf nm 4:=⟨_,rfl⟩
 obtain ⟨s,hs⟩:∃ s,s=r.1.ai (if False then 4 else 0):=⟨_,rfl⟩
 have hall:r.1.all=q.all:=by rw [hr,Q.dP]
 have hrok:r.1.ok:=by rw [hr];exact Q.fI hq _ _
 have hrv:r.2<4294967296:=by rw [hr];exact Q.go_lt _ 4 0
 have hg:(q.cB nm true)=(s,r.2):=by rw [hs,hr];simp [Q.cB]
 have HN:Hid (∀ w',Fr (fun _=>False) w w'→Calls Tryz.prog 98 #[.agg (q.rv xo len xc last),.string nm,.int .i64 4] w' fun e w''=>∃ last':Nat,e = .returned (.tuple #[.agg (r.1.rv xo len xc last'),.int .u64 (r.2:Nat)])∧(r.1.f=none→last'=r.1.part)∧Fr (fun _=>False) w' w''):=fun w' hf=>by
  rw [hr];exact gG q nm 4 xo len xc last w w' hf hlen hq hx hlc hl (.inr (.inl rfl)) hla
 have HM:Hid (∀ w' (last':Nat),Fr (fun _=>False) w w'→(r.1.f=none→last'=r.1.part)→Calls Tryz.prog 99 #[.agg (r.1.rv xo len xc last'),.bool (false),.int .i64 4] w' fun e w''=>∃ last2:Nat,e = .returned (.agg (s.rv xo len xc last2))∧(s.f=none→last2=s.part)∧Fr (fun _=>False) w' w''):=fun w' last' hf h=>by
  have hb:=lO r.1 xo len xc last' (false) 4 w' (by rw [hall];exact hlen) hrok (by decide) h
  rw [show r.1.ai (if (false)=true then 4 else 0)=s by rw [hs];congr 1;done] at hb
  exact hb
 rw [hg]
 clear hr hs hall hrok hx hlc hl hg hla hq hlen
 unfold Q.rv at *
 go_enter Tryz.func101,Tryz.ntmps101
 go_wp2_with fail
 refine ((aa HN) _ (aZ _ _ _)).mono ?_
 rintro e w5 ⟨last',rfl,hla,hf5⟩
 have hs3:=uo w (.cells #[.slice xo len xc,.int .i64 (q.at_:Nat),.int .i64 (last:Nat),.string q.nm,.string (bo q.f).1,.int .i64 ((bo q.f).2.1:Nat),.int .i64 ((bo q.f).2.2:Nat)] 120) (.cells #[.slice none 0 0,.int .i64 0,.int .i64 0,.string ⟨#[]⟩,.string ⟨#[]⟩,.int .i64 0,.int .i64 0] 120)
 have hb0:=(hf5.block (w.heap.size) (by rw [hs3.2.2];omega) (fun h=>h)).trans hs3.1
 have hb1:=(hf5.block (w.heap.size+1) (by rw [hs3.2.2];omega) (fun h=>h)).trans hs3.2.1
 have r0:w5.cell? ⟨w.heap.size,0,none⟩=some (.slice xo len xc):=by simp [World.cell?,hb0]
 have r1:w5.cell? ⟨w.heap.size,1,none⟩=some (.int .i64 (q.at_:Nat)):=by simp [World.cell?,hb0]
 have r2:w5.cell? ⟨w.heap.size,2,none⟩=some (.int .i64 (last:Nat)):=by simp [World.cell?,hb0]
 have r3:w5.cell? ⟨w.heap.size,3,none⟩=some (.string q.nm):=by simp [World.cell?,hb0]
 have r4:w5.cell? ⟨w.heap.size,4,none⟩=some (.string (bo q.f).1):=by simp [World.cell?,hb0]
 have r5:w5.cell? ⟨w.heap.size,5,none⟩=some (.int .i64 ((bo q.f).2.1:Nat)):=by simp [World.cell?,hb0]
 have r6:w5.cell? ⟨w.heap.size,6,none⟩=some (.int .i64 ((bo q.f).2.2:Nat)):=by simp [World.cell?,hb0]
 have rz:∀ i,w5.frozen? ⟨w.heap.size,i,none⟩=false:=fun i=>by simp [World.frozen?,hb0]
 have hlr:=ab r0
 have hl3:w.heap.size+2≤w5.heap.size:=by have:=hf5.size;rw [hs3.2.2] at this;exact this
 have H5:=ae (And.intro hla (And.intro ((aZ _ _ _).trans hf5 (fun _ _ h=>h)) (And.intro hb0 (And.intro hb1 hl3))))
 clear hla hf5 hs3 hb0 hb1 hl3
 go_wp2_with fail
 obtain ⟨W5,hW5⟩:∃ W5,(((((((w5.setCell ⟨w.heap.size,0,none⟩ (.slice xo len xc)).setCell ⟨w.heap.size,1,none⟩ (.int .i64 (r.1.at_:Nat))).setCell ⟨w.heap.size,2,none⟩ (.int .i64 (last':Nat))).setCell ⟨w.heap.size,3,none⟩ (.string r.1.nm)).setCell ⟨w.heap.size,4,none⟩ (.string (bo r.1.f).1)).setCell ⟨w.heap.size,5,none⟩ (.int .i64 ((bo r.1.f).2.1:Nat))).setCell ⟨w.heap.size,6,none⟩ (.int .i64 ((bo r.1.f).2.2:Nat)))=W5:=⟨_,rfl⟩
 have hB0:W5.heap[w.heap.size]?=some (.cells #[.slice xo len xc,.int .i64 (r.1.at_:Nat),.int .i64 (last':Nat),.string r.1.nm,.string (bo r.1.f).1,.int .i64 ((bo r.1.f).2.1:Nat),.int .i64 ((bo r.1.f).2.2:Nat)] 120):=by rw [← hW5];exact je (aa H5).2.2.1 _ _ _ _ _ _ _
 have hf55:Fr (fun k=>k=w.heap.size) w5 W5:=by rw [← hW5];exact qe (Fr.refl (fun k=>k=w.heap.size) w5) (.inl rfl) _ _ _ _ _ _ _
 have hl5:=(aa H5).2.2.2.2
 have hB1:=(hf55.block (w.heap.size+1) (by omega) (fun h=>by omega)).trans (aa H5).2.2.2.1
 have hf05:Fr (fun _=>False) w W5:=(aa H5).2.1.trans hf55 (fun k hk e=>by omega)
 have hlW:=hf55.size
 rw [hW5]
 refine ((aa HM) W5 last' hf05 (aa H5).1).mono ?_
 rintro e w7 ⟨last2,rfl,hl2,hf7⟩
 have hc1:=(hf7.block (w.heap.size+1) (by omega) (fun h=>h)).trans hB1
 have z0:w7.cell? ⟨w.heap.size+1,0,none⟩=some (.slice none 0 0):=by simp [World.cell?,hc1]
 have z1:w7.cell? ⟨w.heap.size+1,1,none⟩=some (.int .i64 0):=by simp [World.cell?,hc1]
 have z2:w7.cell? ⟨w.heap.size+1,2,none⟩=some (.int .i64 0):=by simp [World.cell?,hc1]
 have z3:w7.cell? ⟨w.heap.size+1,3,none⟩=some (.string ⟨#[]⟩):=by simp [World.cell?,hc1]
 have z4:w7.cell? ⟨w.heap.size+1,4,none⟩=some (.string ⟨#[]⟩):=by simp [World.cell?,hc1]
 have z5:w7.cell? ⟨w.heap.size+1,5,none⟩=some (.int .i64 0):=by simp [World.cell?,hc1]
 have z6:w7.cell? ⟨w.heap.size+1,6,none⟩=some (.int .i64 0):=by simp [World.cell?,hc1]
 have f1:∀ i,w7.frozen? ⟨w.heap.size+1,i,none⟩=false:=fun i=>by simp [World.frozen?,hc1]
 have hlz:=ab z0
 have H7:=ae (And.intro hl2 (hf05.trans hf7 (fun _ _ h=>h)))
 clear hl2 hf7 hf05 hf55 hB0 hB1 hc1 hl5 hlW hW5 r0 r1 r2 r3 r4 r5 r6 rz hlr
 go_wp2_with fail
 refine bodyPost_ret (v:=.tuple #[.agg #[.slice xo len xc,.int .i64 (s.at_:Nat),.int .i64 (last2:Nat),.string s.nm,.string (bo s.f).1,.int .i64 ((bo s.f).2.1:Nat),.int .i64 ((bo s.f).2.2:Nat)],.int .u32 (r.2:Nat)]) (by simp [results,Tryz.results101,go_sem,z0,z1,z2,z3,z4,z5,z6]) rfl ?_
 exact ⟨last2,rfl,(aa H7).1,qe (aa H7).2 (.inr (Nat.le_succ _)) _ _ _ _ _ _ _⟩
theorem Q.iw (q:Q) (nm:ByteArray) (least most:Int):(q.many nm least most).1.all=q.all:=by
 show (((q.ah nm).go 6 most).1.ai _).all=q.all
 rw [Q.bZ,Q.go_all,Q.ba]
theorem tb (q:Q) (nm:ByteArray) (least most:Int) (xo:Option Addr) (len xc last:Nat) (w w':World) (hf:Fr (fun _=>False) w w') (hlen:q.all.length=len) (hq:q.ok) (hx:Src w (.slice xo len xc) q.all) (hlc:len≤xc) (hl:len≤16777216) (hk:most<9223372036854775808) (hla:q.f=none→last=q.part) :
  Calls Tryz.prog 103 #[.agg (q.rv xo len xc last),.string nm,.int .i64 least,.int .i64 most] w' fun e w''=>∃ (last':Nat) (sx:Option Addr) (sn sc:Nat),e = .returned (.tuple #[.agg ((q.many nm least most).1.rv xo len xc last'),.slice sx sn sc])∧Src w'' (.slice sx sn sc) (q.many nm least most).2∧(∀ g o m c,Value.slice sx sn sc = .slice (some ⟨g,o,none⟩) m c→w'.heap.size≤g)∧((q.many nm least most).1.f=none→last'=(q.many nm least most).1.part)∧Fr (fun _=>False) w' w'':=by
 subst hlen
 have hg:=pn q nm least most xo xc last w' hq (hx.fr hf (fun _ _ _ _ _ h=>h)) hlc hl hk hla
 rw [Q.dx rfl] at hg
 refine hg.mono ?_
 rintro e w'' ⟨last',v,rfl,h1,h2,h3,h4⟩
 obtain ⟨sx,sc,rfl⟩:=h1.form
 exact ⟨last',sx,_,sc,by rw [Q.dx (by rw [Q.iw])],h1,h2,h3,h4⟩
theorem Q.iU (q:Q):q.bB.1.all=q.all:=by
 show ((((q.ah dm).go 4 0).1.many dB 1 32).1).all=q.all
 rw [Q.iw,Q.go_all,Q.ba]
theorem Q.qI {q:Q} (h:q.ok) (nm:ByteArray) (least most:Int):(q.many nm least most).1.ok:=by
 show (((q.ah nm).go 6 most).1.ai _).ok
 exact Q.bN (Q.go_ok (Q.cP h nm) _ _) _ (by split <;> omega)
theorem Q.mh {q:Q} (h:q.ok):q.bB.1.ok:=Q.qI (Q.go_ok (Q.cP h dm) 4 0) _ _ _
theorem kX (q:Q) (xo:Option Addr) (len xc last:Nat) (w w':World) (hf:Fr (fun _=>False) w w') (hlen:q.all.length=len) (hq:q.ok) (hx:Src w (.slice xo len xc) q.all) (hlc:len≤xc) (hl:len≤16777216) (hla:q.f=none→last=q.part) :
  Calls Tryz.prog 62 #[.agg (q.rv xo len xc last)] w' fun e w''=>∃ (last':Nat) (sx:Option Addr) (sn sc:Nat),e = .returned (.tuple #[.agg (q.bB.1.rv xo len xc last'),.agg #[.int .u32 (q.bB.2.1:Nat),.slice sx sn sc]])∧Src w'' (.slice sx sn sc) q.bB.2.2∧(∀ g o m c,Value.slice sx sn sc = .slice (some ⟨g,o,none⟩) m c→w'.heap.size≤g)∧(q.bB.1.f=none→last'=q.bB.1.part)∧Fr (fun _=>False) w' w'':=by
 subst hlen
 have hg:=pK q xo xc last w' hq (hx.fr hf (fun _ _ _ _ _ h=>h)) hlc hl hla
 rw [Q.dx rfl] at hg
 refine hg.mono ?_
 rintro e w'' ⟨last',v,rfl,h1,h2,h3,h4⟩
 obtain ⟨sx,sc,rfl⟩:=h1.form
 exact ⟨last',sx,_,sc,by rw [Q.dx (by rw [Q.iU])],h1,h2,h3,h4⟩
def Q.aX (q:Q):Q × (Nat × List Nat) × Nat × List Nat:=(((q.bB.1.cf ei 4).1.many bA 0 32768).1,q.bB.2,(q.bB.1.cf ei 4).2,((q.bB.1.cf ei 4).1.many bA 0 32768).2)
theorem mJ (q:Q) (xo:Option Addr) (len xc last:Nat) (w:World) (hlen:q.all.length=len) (hq:q.ok) (hx:Src w (.slice xo len xc) q.all) (hlc:len≤xc) (hl:len≤16777216) (hla:q.f=none→last=q.part) :
  Calls Tryz.prog 63 #[.agg (q.rv xo len xc last)] w fun e w'=>∃ (last':Nat) (sx:Option Addr) (sn sc:Nat) (ux:Option Addr) (un uc:Nat),e = .returned (.tuple #[.agg (q.aX.1.rv xo len xc last'),.agg #[.int .u32 (q.aX.2.1.1:Nat),.slice sx sn sc,.int .u32 (q.aX.2.2.1:Nat),.slice ux un uc]])∧Src w' (.slice sx sn sc) q.aX.2.1.2∧Src w' (.slice ux un uc) q.aX.2.2.2∧(∀ g o m c,Value.slice sx sn sc = .slice (some ⟨g,o,none⟩) m c→w.heap.size≤g)∧(∀ g o m c,Value.slice ux un uc = .slice (some ⟨g,o,none⟩) m c→w.heap.size≤g)∧(q.aX.1.f=none→last'=q.aX.1.part)∧Fr (fun _=>False) w w':=by
 obtain ⟨h,hh⟩:∃ h,h=q.bB:=⟨_,rfl⟩
 obtain ⟨r,hr⟩:∃ r,r=h.1.cf ei 4:=⟨_,rfl⟩
 obtain ⟨s,hs⟩:∃ s,s=r.1.many bA 0 32768:=⟨_,rfl⟩
 have hallh:h.1.all=q.all:=by rw [hh,Q.iU]
 have hall:r.1.all=q.all:=by rw [hr,Q.dP,hallh]
 have hhok:h.1.ok:=by rw [hh];exact Q.mh hq
 have hrok:r.1.ok:=by rw [hr];exact Q.fI hhok _ _
 have hrv:r.2<4294967296:=by rw [hr];exact Q.go_lt _ 4 0
 have hg:q.aX=(s.1,h.2,r.2,s.2):=by rw [hs,hr,hh];rfl
 have HH:Hid (∀ w',Fr (fun _=>False) w w'→Calls Tryz.prog 62 #[.agg (q.rv xo len xc last)] w' fun e w''=>∃ (last':Nat) (sx:Option Addr) (sn sc:Nat),e = .returned (.tuple #[.agg (h.1.rv xo len xc last'),.agg #[.int .u32 (h.2.1:Nat),.slice sx sn sc]])∧Src w'' (.slice sx sn sc) h.2.2∧(∀ g o m c,Value.slice sx sn sc = .slice (some ⟨g,o,none⟩) m c→w'.heap.size≤g)∧(h.1.f=none→last'=h.1.part)∧Fr (fun _=>False) w' w''):=fun w' hf=>by
  rw [hh];exact kX q xo len xc last w w' hf hlen hq hx hlc hl hla
 have HN:Hid (∀ w' (last':Nat),Fr (fun _=>False) w w'→(h.1.f=none→last'=h.1.part)→Calls Tryz.prog 98 #[.agg (h.1.rv xo len xc last'),.string ei,.int .i64 4] w' fun e w''=>∃ last2:Nat,e = .returned (.tuple #[.agg (r.1.rv xo len xc last2),.int .u64 (r.2:Nat)])∧(r.1.f=none→last2=r.1.part)∧Fr (fun _=>False) w' w''):=fun w' last' hf h1=>by
  rw [hr];exact gG h.1 ei 4 xo len xc last' w w' hf (by rw [hallh];exact hlen) hhok (by rw [hallh];exact hx) hlc hl (.inr (.inl rfl)) h1
 have HM:Hid (∀ w' (last':Nat),Fr (fun _=>False) w w'→(r.1.f=none→last'=r.1.part)→Calls Tryz.prog 103 #[.agg (r.1.rv xo len xc last'),.string bA,.int .i64 0,.int .i64 32768] w' fun e w''=>∃ (last2:Nat) (ux:Option Addr) (un uc:Nat),e = .returned (.tuple #[.agg (s.1.rv xo len xc last2),.slice ux un uc])∧Src w'' (.slice ux un uc) s.2∧(∀ g o m c,Value.slice ux un uc = .slice (some ⟨g,o,none⟩) m c→w'.heap.size≤g)∧(s.1.f=none→last2=s.1.part)∧Fr (fun _=>False) w' w''):=fun w' last' hf h1=>by
  rw [hs];exact tb r.1 bA 0 32768 xo len xc last' w w' hf (by rw [hall];exact hlen) hrok (by rw [hall];exact hx) hlc hl (by decide) h1
 rw [hg]
 clear hr hs hh hall hallh hhok hrok hx hlc hl hg hla hq hlen
 unfold Q.rv at *
 go_enter Tryz.func63,Tryz.ntmps63
 go_wp2_with fail
 refine ((aa HH) _ (mv _ _ _ _ _)).mono ?_
 rintro e w5 ⟨last',sx,sn,sc,rfl,hsrc,hnew,hla,hf5⟩
 have hs4:=Dk w (.cells #[.slice xo len xc,.int .i64 (q.at_:Nat),.int .i64 (last:Nat),.string q.nm,.string (bo q.f).1,.int .i64 ((bo q.f).2.1:Nat),.int .i64 ((bo q.f).2.2:Nat)] 120) (.cells #[.slice none 0 0,.int .i64 0,.int .i64 0,.string ⟨#[]⟩,.string ⟨#[]⟩,.int .i64 0,.int .i64 0] 120) (.cells #[.int .u32 0,.slice none 0 0,.int .u32 0,.slice none 0 0] 37) (.cells #[.int .u32 0,.slice none 0 0,.int .u32 0,.slice none 0 0] 37)
 have hb0:=(hf5.block (w.heap.size) (by rw [hs4.2.2.2.2];omega) (fun h=>h)).trans hs4.1
 have hb1:=(hf5.block (w.heap.size+1) (by rw [hs4.2.2.2.2];omega) (fun h=>h)).trans hs4.2.1
 have hb2:=(hf5.block (w.heap.size+1+1) (by rw [hs4.2.2.2.2];omega) (fun h=>h)).trans hs4.2.2.1
 have hb3:=(hf5.block (w.heap.size+1+1+1) (by rw [hs4.2.2.2.2];omega) (fun h=>h)).trans hs4.2.2.2.1
 have hl4:w.heap.size+4≤w5.heap.size:=by have:=hf5.size;rw [hs4.2.2.2.2] at this;exact this
 have hnew4:∀ g o m c,Value.slice sx sn sc = .slice (some ⟨g,o,none⟩) m c→w.heap.size+4≤g:=fun g o m c e=>by have:=hnew g o m c e;rw [hs4.2.2.2.2] at this;exact this
 have ra0:w5.cell? ⟨w.heap.size,0,none⟩=some (.slice xo len xc):=by simp [World.cell?,hb0]
 have ra1:w5.cell? ⟨w.heap.size,1,none⟩=some (.int .i64 (q.at_:Nat)):=by simp [World.cell?,hb0]
 have ra2:w5.cell? ⟨w.heap.size,2,none⟩=some (.int .i64 (last:Nat)):=by simp [World.cell?,hb0]
 have ra3:w5.cell? ⟨w.heap.size,3,none⟩=some (.string q.nm):=by simp [World.cell?,hb0]
 have ra4:w5.cell? ⟨w.heap.size,4,none⟩=some (.string (bo q.f).1):=by simp [World.cell?,hb0]
 have ra5:w5.cell? ⟨w.heap.size,5,none⟩=some (.int .i64 ((bo q.f).2.1:Nat)):=by simp [World.cell?,hb0]
 have ra6:w5.cell? ⟨w.heap.size,6,none⟩=some (.int .i64 ((bo q.f).2.2:Nat)):=by simp [World.cell?,hb0]
 have sa0:w5.cell? ⟨w.heap.size+1+1+1,0,none⟩=some (.int .u32 0):=by simp [World.cell?,hb3]
 have sa1:w5.cell? ⟨w.heap.size+1+1+1,1,none⟩=some (.slice none 0 0):=by simp [World.cell?,hb3]
 have sa2:w5.cell? ⟨w.heap.size+1+1+1,2,none⟩=some (.int .u32 0):=by simp [World.cell?,hb3]
 have sa3:w5.cell? ⟨w.heap.size+1+1+1,3,none⟩=some (.slice none 0 0):=by simp [World.cell?,hb3]
 have rza:∀ i,w5.frozen? ⟨w.heap.size,i,none⟩=false:=fun i=>by simp [World.frozen?,hb0]
 have sza:∀ i,w5.frozen? ⟨w.heap.size+1+1+1,i,none⟩=false:=fun i=>by simp [World.frozen?,hb3]
 have hlra:=ab ra0
 have hlsa:=ab sa0
 have H5:=ae (And.intro hla (And.intro ((mv _ _ _ _ _).trans hf5 (fun _ _ h=>h)) (And.intro hsrc (And.intro hnew4 (And.intro hl4 (And.intro hb0 (And.intro hb1 (And.intro hb2 hb3))))))))
 clear hla hf5 hs4 hb0 hb1 hb2 hb3 hl4 hsrc hnew hnew4
 go_wp2_with fail
 obtain ⟨W5,hW5⟩:∃ W5,(((((((((w5.setCell ⟨w.heap.size,0,none⟩ (.slice xo len xc)).setCell ⟨w.heap.size,1,none⟩ (.int .i64 (h.1.at_:Nat))).setCell ⟨w.heap.size,2,none⟩ (.int .i64 (last':Nat))).setCell ⟨w.heap.size,3,none⟩ (.string h.1.nm)).setCell ⟨w.heap.size,4,none⟩ (.string (bo h.1.f).1)).setCell ⟨w.heap.size,5,none⟩ (.int .i64 ((bo h.1.f).2.1:Nat))).setCell ⟨w.heap.size,6,none⟩ (.int .i64 ((bo h.1.f).2.2:Nat))).setCell ⟨w.heap.size+1+1+1,0,none⟩ (.int .u32 (h.2.1:Nat))).setCell ⟨w.heap.size+1+1+1,1,none⟩ (.slice sx sn sc))=W5:=⟨_,rfl⟩
 obtain ⟨hla,hf5,hsrc,hnew,hl4,hb0,hb1,hb2,hb3⟩:=aa H5
 have hF:Fr (fun k=>k=w.heap.size∨k=w.heap.size+1+1+1) w5 W5:=by rw [← hW5];exact ((qe (Fr.refl (fun k=>k=w.heap.size∨k=w.heap.size+1+1+1) w5) (.inl (.inl rfl)) _ _ _ _ _ _ _).setCell (.inl (.inr rfl)) _).setCell (.inl (.inr rfl)) _
 have hB0:W5.heap[w.heap.size]?=some (.cells #[.slice xo len xc,.int .i64 (h.1.at_:Nat),.int .i64 (last':Nat),.string h.1.nm,.string (bo h.1.f).1,.int .i64 ((bo h.1.f).2.1:Nat),.int .i64 ((bo h.1.f).2.2:Nat)] 120):=by
  rw [← hW5,Below.heap_setCell _ _ _ _ (by show w.heap.size≠w.heap.size+1+1+1;omega),Below.heap_setCell _ _ _ _ (by show w.heap.size≠w.heap.size+1+1+1;omega)]
  exact je hb0 _ _ _ _ _ _ _
 have hB3:W5.heap[w.heap.size+1+1+1]?=some (.cells #[.int .u32 (h.2.1:Nat),.slice sx sn sc,.int .u32 0,.slice none 0 0] 37):=by
  rw [← hW5,eP (eP (((qe (Fr.refl (fun k=>k=w.heap.size) w5) (.inl rfl) _ _ _ _ _ _ _).block _ (by omega) (fun h=>by omega)).trans hb3) _ _) _ _]
  simp
 have hB1:=(hF.block (w.heap.size+1) (by omega) (fun h=>by omega)).trans hb1
 have hB2:=(hF.block (w.heap.size+1+1) (by omega) (fun h=>by omega)).trans hb2
 have hf05:Fr (fun _=>False) w W5:=hf5.trans hF (fun k hk e=>by omega)
 have hlW:=hF.size
 have hsrcW:=hsrc.fr hF (fun g o m c e hx=>by have:=hnew g o m c e;omega)
 rw [hW5]
 refine ((aa HN) W5 last' hf05 hla).mono ?_
 clear hb0 hb1 hb2 hb3
 rintro e w7 ⟨last2,rfl,hl2,hf7⟩
 have hb0:=(hf7.block (w.heap.size) (by omega) (fun h=>h)).trans hB0
 have hb1:=(hf7.block (w.heap.size+1) (by omega) (fun h=>h)).trans hB1
 have hb2:=(hf7.block (w.heap.size+1+1) (by omega) (fun h=>h)).trans hB2
 have hb3:=(hf7.block (w.heap.size+1+1+1) (by omega) (fun h=>h)).trans hB3
 have hl7:=hf7.size
 have rb0:w7.cell? ⟨w.heap.size,0,none⟩=some (.slice xo len xc):=by simp [World.cell?,hb0]
 have rb1:w7.cell? ⟨w.heap.size,1,none⟩=some (.int .i64 (h.1.at_:Nat)):=by simp [World.cell?,hb0]
 have rb2:w7.cell? ⟨w.heap.size,2,none⟩=some (.int .i64 (last':Nat)):=by simp [World.cell?,hb0]
 have rb3:w7.cell? ⟨w.heap.size,3,none⟩=some (.string h.1.nm):=by simp [World.cell?,hb0]
 have rb4:w7.cell? ⟨w.heap.size,4,none⟩=some (.string (bo h.1.f).1):=by simp [World.cell?,hb0]
 have rb5:w7.cell? ⟨w.heap.size,5,none⟩=some (.int .i64 ((bo h.1.f).2.1:Nat)):=by simp [World.cell?,hb0]
 have rb6:w7.cell? ⟨w.heap.size,6,none⟩=some (.int .i64 ((bo h.1.f).2.2:Nat)):=by simp [World.cell?,hb0]
 have sb0:w7.cell? ⟨w.heap.size+1+1+1,0,none⟩=some (.int .u32 (h.2.1:Nat)):=by simp [World.cell?,hb3]
 have sb1:w7.cell? ⟨w.heap.size+1+1+1,1,none⟩=some (.slice sx sn sc):=by simp [World.cell?,hb3]
 have sb2:w7.cell? ⟨w.heap.size+1+1+1,2,none⟩=some (.int .u32 0):=by simp [World.cell?,hb3]
 have sb3:w7.cell? ⟨w.heap.size+1+1+1,3,none⟩=some (.slice none 0 0):=by simp [World.cell?,hb3]
 have rzb:∀ i,w7.frozen? ⟨w.heap.size,i,none⟩=false:=fun i=>by simp [World.frozen?,hb0]
 have szb:∀ i,w7.frozen? ⟨w.heap.size+1+1+1,i,none⟩=false:=fun i=>by simp [World.frozen?,hb3]
 have hlrb:=ab rb0
 have hlsb:=ab sb0
 have H7:=ae (And.intro hl2 (And.intro (hf05.trans hf7 (fun _ _ h=>h)) (And.intro (hsrcW.fr hf7 (fun _ _ _ _ _ h=>h)) (And.intro hnew (And.intro (show w.heap.size+4≤w7.heap.size by omega) (And.intro hb0 (And.intro hb1 (And.intro hb2 hb3))))))))
 clear hl2 hf7 hf05 hF hB0 hB1 hB2 hB3 hb0 hb1 hb2 hb3 hl4 hlW hl7 hW5 hsrc hsrcW hnew hla hf5 H5 ra0 ra1 ra2 ra3 ra4 ra5 ra6 sa0 sa1 sa2 sa3 rza sza hlra hlsa
 go_wp2_with fail
 obtain ⟨W7,hW7⟩:∃ W7,((((((((w7.setCell ⟨w.heap.size,0,none⟩ (.slice xo len xc)).setCell ⟨w.heap.size,1,none⟩ (.int .i64 (r.1.at_:Nat))).setCell ⟨w.heap.size,2,none⟩ (.int .i64 (last2:Nat))).setCell ⟨w.heap.size,3,none⟩ (.string r.1.nm)).setCell ⟨w.heap.size,4,none⟩ (.string (bo r.1.f).1)).setCell ⟨w.heap.size,5,none⟩ (.int .i64 ((bo r.1.f).2.1:Nat))).setCell ⟨w.heap.size,6,none⟩ (.int .i64 ((bo r.1.f).2.2:Nat))).setCell ⟨w.heap.size+1+1+1,2,none⟩ (.int .u32 (r.2:Nat)))=W7:=⟨_,rfl⟩
 obtain ⟨hla,hf5,hsrc,hnew,hl4,hb0,hb1,hb2,hb3⟩:=aa H7
 have hF:Fr (fun k=>k=w.heap.size∨k=w.heap.size+1+1+1) w7 W7:=by rw [← hW7];exact (qe (Fr.refl (fun k=>k=w.heap.size∨k=w.heap.size+1+1+1) w7) (.inl (.inl rfl)) _ _ _ _ _ _ _).setCell (.inl (.inr rfl)) _
 have hB0:W7.heap[w.heap.size]?=some (.cells #[.slice xo len xc,.int .i64 (r.1.at_:Nat),.int .i64 (last2:Nat),.string r.1.nm,.string (bo r.1.f).1,.int .i64 ((bo r.1.f).2.1:Nat),.int .i64 ((bo r.1.f).2.2:Nat)] 120):=by
  rw [← hW7,Below.heap_setCell _ _ _ _ (by show w.heap.size≠w.heap.size+1+1+1;omega)]
  exact je hb0 _ _ _ _ _ _ _
 have hB3:W7.heap[w.heap.size+1+1+1]?=some (.cells #[.int .u32 (h.2.1:Nat),.slice sx sn sc,.int .u32 (r.2:Nat),.slice none 0 0] 37):=by
  rw [← hW7,eP (((qe (Fr.refl (fun k=>k=w.heap.size) w7) (.inl rfl) _ _ _ _ _ _ _).block _ (by omega) (fun h=>by omega)).trans hb3) _ _]
  simp
 have hB1:=(hF.block (w.heap.size+1) (by omega) (fun h=>by omega)).trans hb1
 have hB2:=(hF.block (w.heap.size+1+1) (by omega) (fun h=>by omega)).trans hb2
 have hf05:Fr (fun _=>False) w W7:=hf5.trans hF (fun k hk e=>by omega)
 have hlW:=hF.size
 have hsrcW:=hsrc.fr hF (fun g o m c e hx=>by have:=hnew g o m c e;omega)
 rw [hW7]
 refine ((aa HM) W7 last2 hf05 hla).mono ?_
 clear hb0 hb1 hb2 hb3
 rintro e w8 ⟨last3,ux,un,uc,rfl,hsrcu,hnewu,hl3,hf8⟩
 have hb0:=(hf8.block (w.heap.size) (by omega) (fun h=>h)).trans hB0
 have hb1:=(hf8.block (w.heap.size+1) (by omega) (fun h=>h)).trans hB1
 have hb2:=(hf8.block (w.heap.size+1+1) (by omega) (fun h=>h)).trans hB2
 have hb3:=(hf8.block (w.heap.size+1+1+1) (by omega) (fun h=>h)).trans hB3
 have hl8:=hf8.size
 have rc0:w8.cell? ⟨w.heap.size,0,none⟩=some (.slice xo len xc):=by simp [World.cell?,hb0]
 have rc1:w8.cell? ⟨w.heap.size,1,none⟩=some (.int .i64 (r.1.at_:Nat)):=by simp [World.cell?,hb0]
 have rc2:w8.cell? ⟨w.heap.size,2,none⟩=some (.int .i64 (last2:Nat)):=by simp [World.cell?,hb0]
 have rc3:w8.cell? ⟨w.heap.size,3,none⟩=some (.string r.1.nm):=by simp [World.cell?,hb0]
 have rc4:w8.cell? ⟨w.heap.size,4,none⟩=some (.string (bo r.1.f).1):=by simp [World.cell?,hb0]
 have rc5:w8.cell? ⟨w.heap.size,5,none⟩=some (.int .i64 ((bo r.1.f).2.1:Nat)):=by simp [World.cell?,hb0]
 have rc6:w8.cell? ⟨w.heap.size,6,none⟩=some (.int .i64 ((bo r.1.f).2.2:Nat)):=by simp [World.cell?,hb0]
 have sc0:w8.cell? ⟨w.heap.size+1+1+1,0,none⟩=some (.int .u32 (h.2.1:Nat)):=by simp [World.cell?,hb3]
 have sc1:w8.cell? ⟨w.heap.size+1+1+1,1,none⟩=some (.slice sx sn sc):=by simp [World.cell?,hb3]
 have sc2:w8.cell? ⟨w.heap.size+1+1+1,2,none⟩=some (.int .u32 (r.2:Nat)):=by simp [World.cell?,hb3]
 have sc3:w8.cell? ⟨w.heap.size+1+1+1,3,none⟩=some (.slice none 0 0):=by simp [World.cell?,hb3]
 have rzc:∀ i,w8.frozen? ⟨w.heap.size,i,none⟩=false:=fun i=>by simp [World.frozen?,hb0]
 have szc:∀ i,w8.frozen? ⟨w.heap.size+1+1+1,i,none⟩=false:=fun i=>by simp [World.frozen?,hb3]
 have hlrc:=ab rc0
 have hlsc:=ab sc0
 have z0:w8.cell? ⟨w.heap.size+1,0,none⟩=some (.slice none 0 0):=by simp [World.cell?,hb1]
 have z1:w8.cell? ⟨w.heap.size+1,1,none⟩=some (.int .i64 0):=by simp [World.cell?,hb1]
 have z2:w8.cell? ⟨w.heap.size+1,2,none⟩=some (.int .i64 0):=by simp [World.cell?,hb1]
 have z3:w8.cell? ⟨w.heap.size+1,3,none⟩=some (.string ⟨#[]⟩):=by simp [World.cell?,hb1]
 have z4:w8.cell? ⟨w.heap.size+1,4,none⟩=some (.string ⟨#[]⟩):=by simp [World.cell?,hb1]
 have z5:w8.cell? ⟨w.heap.size+1,5,none⟩=some (.int .i64 0):=by simp [World.cell?,hb1]
 have z6:w8.cell? ⟨w.heap.size+1,6,none⟩=some (.int .i64 0):=by simp [World.cell?,hb1]
 have m0:w8.cell? ⟨w.heap.size+1+1,0,none⟩=some (.int .u32 0):=by simp [World.cell?,hb2]
 have m1:w8.cell? ⟨w.heap.size+1+1,1,none⟩=some (.slice none 0 0):=by simp [World.cell?,hb2]
 have m2:w8.cell? ⟨w.heap.size+1+1,2,none⟩=some (.int .u32 0):=by simp [World.cell?,hb2]
 have m3:w8.cell? ⟨w.heap.size+1+1,3,none⟩=some (.slice none 0 0):=by simp [World.cell?,hb2]
 have f1:∀ i,w8.frozen? ⟨w.heap.size+1,i,none⟩=false:=fun i=>by simp [World.frozen?,hb1]
 have f2:∀ i,w8.frozen? ⟨w.heap.size+1+1,i,none⟩=false:=fun i=>by simp [World.frozen?,hb2]
 have hlz:=ab z0
 have hlm:=ab m0
 have hnewu4:∀ g o m c,Value.slice ux un uc = .slice (some ⟨g,o,none⟩) m c→w.heap.size+4≤g:=fun g o m c e=>by have:=hnewu g o m c e;omega
 have H8:=ae (And.intro hl3 (And.intro (hf05.trans hf8 (fun _ _ h=>h)) (And.intro (hsrcW.fr hf8 (fun _ _ _ _ _ h=>h)) (And.intro hnew (And.intro hsrcu hnewu4)))))
 clear hl3 hf8 hf05 hF hB0 hB1 hB2 hB3 hb0 hb1 hb2 hb3 hl4 hlW hl8 hW7 hsrc hsrcW hnew hla hf5 H7 hsrcu hnewu hnewu4 rb0 rb1 rb2 rb3 rb4 rb5 rb6 sb0 sb1 sb2 sb3 rzb szb hlrb hlsb
 go_wp2_with fail
 go_region
 go_wp2_with fail
 refine bodyPost_ret (v:=.tuple #[.agg #[.slice xo len xc,.int .i64 (s.1.at_:Nat),.int .i64 (last3:Nat),.string s.1.nm,.string (bo s.1.f).1,.int .i64 ((bo s.1.f).2.1:Nat),.int .i64 ((bo s.1.f).2.2:Nat)],.agg #[.int .u32 (h.2.1:Nat),.slice sx sn sc,.int .u32 (r.2:Nat),.slice ux un uc]]) (by simp [results,Tryz.results63,go_sem,z0,z1,z2,z3,z4,z5,z6,m0,m1,m2,m3]) rfl ?_
 refine ⟨last3,sx,sn,sc,ux,un,uc,rfl,(aa H8).2.2.1.fr (S:=(fun k=>k=w.heap.size∨k=w.heap.size+1∨k=w.heap.size+1+1∨k=w.heap.size+1+1+1)) ?_ (fun g o m c e hx=>by have:=(aa H8).2.2.2.1 g o m c e;omega),(aa H8).2.2.2.2.1.fr (S:=(fun k=>k=w.heap.size∨k=w.heap.size+1∨k=w.heap.size+1+1∨k=w.heap.size+1+1+1)) ?_ (fun g o m c e hx=>by have:=(aa H8).2.2.2.2.2 g o m c e;omega),(fun g o m c e=>by have:=(aa H8).2.2.2.1 g o m c e;omega),(fun g o m c e=>by have:=(aa H8).2.2.2.2.2 g o m c e;omega),(aa H8).1,?_⟩
 ·exact (((((qe ((qe (Fr.refl (fun k=>k=w.heap.size∨k=w.heap.size+1∨k=w.heap.size+1+1∨k=w.heap.size+1+1+1) w8) (.inl (.inl rfl)) _ _ _ _ _ _ _).setCell (.inl (.inr (.inr (.inr rfl)))) _) (.inl (.inr (.inl rfl))) _ _ _ _ _ _ _).setCell (.inl (.inr (.inr (.inl rfl)))) _).setCell (.inl (.inr (.inr (.inl rfl)))) _).setCell (.inl (.inr (.inr (.inl rfl)))) _).setCell (.inl (.inr (.inr (.inl rfl)))) _).drew
 ·exact (((((qe ((qe (Fr.refl (fun k=>k=w.heap.size∨k=w.heap.size+1∨k=w.heap.size+1+1∨k=w.heap.size+1+1+1) w8) (.inl (.inl rfl)) _ _ _ _ _ _ _).setCell (.inl (.inr (.inr (.inr rfl)))) _) (.inl (.inr (.inl rfl))) _ _ _ _ _ _ _).setCell (.inl (.inr (.inr (.inl rfl)))) _).setCell (.inl (.inr (.inr (.inl rfl)))) _).setCell (.inl (.inr (.inr (.inl rfl)))) _).setCell (.inl (.inr (.inr (.inl rfl)))) _).drew
 ·exact (((((qe ((qe (aa H8).2.1 (.inr (Nat.le_refl _)) _ _ _ _ _ _ _).setCell (.inr (by show w.heap.size≤w.heap.size+1+1+1;omega)) _) (.inr (Nat.le_succ _)) _ _ _ _ _ _ _).setCell (.inr (by show w.heap.size≤w.heap.size+1+1;omega)) _).setCell (.inr (by show w.heap.size≤w.heap.size+1+1;omega)) _).setCell (.inr (by show w.heap.size≤w.heap.size+1+1;omega)) _).setCell (.inr (by show w.heap.size≤w.heap.size+1+1;omega)) _).drew
theorem aA {P:Program} {ops:Array Oper} {Q:Exit→Act→World→Prop} {a:Act} {w:World} {rest:List Oper} (k:Nat) {x1 x2 x3 x4 x5} (h:wpList P ops Q (Oper.mk (some k) x1 x2 x3 x4 x5::rest) a w):wpList P ops Q (Oper.mk (some k) x1 x2 x3 x4 x5::rest) a w:=h
theorem aw {P:Program} {ops:Array Oper} {Q:Exit→Act→World→Prop} {a:Act} {w:World} {rest:List Oper} {x1 x2 x3 x4 x5} (h:wpList P ops Q (Oper.mk none x1 x2 x3 x4 x5::rest) a w):wpList P ops Q (Oper.mk none x1 x2 x3 x4 x5::rest) a w:=h
theorem aP {P:Program} {w w':World} {ops:Array Oper} {op:Oper} {a:Act} {K:Act→World→Prop} {Q:Exit→Act→World→Prop} {E:Prop} (hgd:op.guard=none) (ty:TypeId) (x y:Operand) (ho:op.op = .store ty x y)
  (p v:Value) (hx:a.eval x=p) (hy:a.eval y=v) (hr:(Instr.storeAt ty p v).run P w = .ok () w')
  (h:K (a.put op.dst undef) w'):if Region.wanted op (yielded ops a.tmps)=true then Oper.wp P op a w K Q else E:=by
 have hw:Region.wanted op (yielded ops a.tmps)=true:=by simp [Region.wanted,hgd]
 rw [if_pos hw]
 unfold Oper.wp execOp
 simp only [ho,hx,hy,Sem.run_bind,hr,Result.andThen_ok,Sem.run_pure]
 exact h
theorem Tryz.al:(Tryz.prog.info? 120).map (·.size)=some 7:=by kernel_rfl
def tm:List Value:=[.slice none 0 0,.int .i64 0,.int .i64 0,.string ⟨#[]⟩,.string ⟨#[]⟩,.int .i64 0,.int .i64 0]
structure nL (w:World) (xo:Option Addr) (len xc:Nat) (all:List Nat):Prop where
 hx:Src w (.slice xo len xc) all
 hl:all.length=len
 hc:len≤xc
 hb:len≤16777216
def QS (q:Q) (xo:Option Addr) (len xc:Nat) (all:List Nat) (R:List Value):Prop:=q.all=all∧q.ok∧∃ last:Nat,R=(q.rv xo len xc last).toList∧(q.f=none→last=q.part)
theorem QS.len {q:Q} {xo:Option Addr} {len xc:Nat} {all:List Nat} {R:List Value} (h:QS q xo len xc all R):R.length=7:=by obtain ⟨_,_,last,rfl,_⟩:=h;rfl
theorem QS.one {q:Q} {xo:Option Addr} {len xc:Nat} {all:List Nat} {R:List Value} (h:QS q xo len xc all R):∀ v∈R,v.oneCell'=true:=by
 obtain ⟨_,_,last,rfl,_⟩:=h
 intro v hv
 simp only [Q.rv,List.mem_cons,List.not_mem_nil,or_false] at hv
 rcases hv with rfl|rfl|rfl|rfl|rfl|rfl|rfl <;> rfl
theorem bT (q:Q) (xo:Option Addr) (len xc last:Nat):(q.rv xo len xc last).toList.toArray=q.rv xo len xc last:=by simp
theorem dZ {w w':World} {xo:Option Addr} {len xc:Nat} {all:List Nat} {R:List Value} {q:Q} (A:nL w xo len xc all) (hf:Fr (fun _=>False) w w') (h:QS q xo len xc all R) (nm:ByteArray) (k:Int) (hk:k=1∨k=4∨k=5) :
  Calls Tryz.prog 98 #[.agg R.toArray,.string nm,.int .i64 k] w' fun e w''=>∃ R',e = .returned (.tuple #[.agg R'.toArray,.int .u64 ((q.cf nm k).2:Nat)])∧QS (q.cf nm k).1 xo len xc all R'∧Fr (fun _=>False) w' w'':=by
 obtain ⟨ha,ho,last,rfl,hla⟩:=h
 obtain ⟨hx,hl,hc,hb⟩:=A
 subst ha
 rw [bT]
 refine (gG q nm k xo len xc last w w' hf hl ho hx hc hb hk hla).mono ?_
 rintro e w2 ⟨l2,rfl,h1,h2⟩
 exact ⟨((q.cf nm k).1.rv xo len xc l2).toList,by rw [bT],⟨Q.dP _ _ _,Q.fI ho _ _,l2,rfl,h1⟩,h2⟩
theorem fF {w':World} {xo:Option Addr} {len xc:Nat} {all:List Nat} {R:List Value} {q:Q} (hl:all.length=len) (h:QS q xo len xc all R) (so:Bool) (n m:Nat) (hn:1≤n) (hn7:n≤7) (hm:(if so=true then n else 0)=m) :
  Calls Tryz.prog 99 #[.agg R.toArray,.bool so,.int .i64 (n:Nat)] w' fun e w''=>∃ R',e = .returned (.agg R'.toArray)∧QS (q.ai m) xo len xc all R'∧Fr (fun _=>False) w' w'':=by
 obtain ⟨ha,ho,last,rfl,hla⟩:=h
 subst ha hm
 rw [bT]
 refine (lO q xo len xc last so n w' hl ho hn hla).mono ?_
 rintro e w2 ⟨l2,rfl,h1,h2⟩
 exact ⟨((q.ai (if so=true then n else 0)).rv xo len xc l2).toList,by rw [bT],⟨Q.bZ _ _,Q.bN ho _ (by split <;> omega),l2,rfl,h1⟩,h2⟩
theorem km {w w':World} {xo:Option Addr} {len xc:Nat} {all:List Nat} {R:List Value} {q:Q} (A:nL w xo len xc all) (hf:Fr (fun _=>False) w w') (h:QS q xo len xc all R) (nm:ByteArray) (least most:Int) (hk:most<9223372036854775808) :
  Calls Tryz.prog 103 #[.agg R.toArray,.string nm,.int .i64 least,.int .i64 most] w' fun e w''=>∃ R' sx sn sc,e = .returned (.tuple #[.agg R'.toArray,.slice sx sn sc])∧QS (q.many nm least most).1 xo len xc all R'∧Src w'' (.slice sx sn sc) (q.many nm least most).2∧(∀ g o m c,Value.slice sx sn sc = .slice (some ⟨g,o,none⟩) m c→w'.heap.size≤g)∧Fr (fun _=>False) w' w'':=by
 obtain ⟨ha,ho,last,rfl,hla⟩:=h
 obtain ⟨hx,hl,hc,hb⟩:=A
 subst ha
 rw [bT]
 refine (tb q nm least most xo len xc last w w' hf hl ho hx hc hb hk hla).mono ?_
 rintro e w2 ⟨l2,sx,sn,sc,rfl,h0,h1,h2,h3⟩
 exact ⟨((q.many nm least most).1.rv xo len xc l2).toList,sx,sn,sc,by rw [bT],⟨Q.iw _ _ _ _,Q.qI ho _ _ _,l2,rfl,h2⟩,h0,h1,h3⟩
structure BX (w W:World) (T:TypeId) (R Z V:List Value):Prop where
 b0:W.heap[w.heap.size]?=some (.cells R.toArray 120)
 b1:W.heap[w.heap.size+1]?=some (.cells tm.toArray 120)
 b2:W.heap[w.heap.size+1+1]?=some (.cells Z.toArray T)
 b3:W.heap[w.heap.size+1+1+1]?=some (.cells V.toArray T)
 fr:Fr (fun _=>False) w W
 n:R.length=7
theorem BX.lt {w W:World} {T:TypeId} {R Z V:List Value} (h:BX w W T R Z V):w.heap.size+1+1+1<W.heap.size:=lt_of_block h.b3
theorem BX.aE {w W W':World} {T:TypeId} {R Z V:List Value} (h:BX w W T R Z V) (hf:Fr (fun _=>False) W W'):BX w W' T R Z V:=by
 have hl:=h.lt
 exact ⟨(hf.block _ (by omega) (fun h=>h)).trans h.b0,(hf.block _ (by omega) (fun h=>h)).trans h.b1,(hf.block _ (by omega) (fun h=>h)).trans h.b2,(hf.block _ (by omega) (fun h=>h)).trans h.b3,h.fr.trans hf (fun _ _ h=>h),h.n⟩
theorem BX.bp {w W:World} {T:TypeId} {R R' Z V:List Value} (h:BX w W T R Z V) {q:Q} {xo:Option Addr} {len xc:Nat} {all:List Nat} (hR:QS q xo len xc all R') :
  ∃ W',(Instr.storeAt 120 (.pointer (some ⟨w.heap.size,0,none⟩)) (.agg R'.toArray)).run Tryz.prog W = .ok () W'∧BX w W' T R' Z V∧Fr (fun k=>k=w.heap.size) W W':=by
 have hl:=h.lt
 obtain ⟨W',h1,h2,h3⟩:=bQ (P:=Tryz.prog) (ty:=120) R R' h.b0 (by rw [h.n,hR.len]) (by rw [hR.len];exact Tryz.al) hR.one
 exact ⟨W',h1,⟨h2,(h3.block _ (by omega) (fun h=>by omega)).trans h.b1,(h3.block _ (by omega) (fun h=>by omega)).trans h.b2,(h3.block _ (by omega) (fun h=>by omega)).trans h.b3,h.fr.trans h3 (fun k hk e=>by omega),hR.len⟩,h3⟩
theorem BX.bU {w W:World} {T:TypeId} {R Z V:List Value} (h:BX w W T R Z V) (i:Nat) (v:Value):BX w (W.setCell ⟨w.heap.size+1+1+1,i,none⟩ v) T R Z (V.set i v):=by
 have hl:=h.lt
 have h3:Fr (fun k=>k=w.heap.size+1+1+1) W (W.setCell ⟨w.heap.size+1+1+1,i,none⟩ v):=(Fr.refl (fun k=>k=w.heap.size+1+1+1) W).setCell (p:=⟨w.heap.size+1+1+1,i,none⟩) (.inl rfl) v
 refine ⟨(h3.block _ (by omega) (fun h=>by omega)).trans h.b0,(h3.block _ (by omega) (fun h=>by omega)).trans h.b1,(h3.block _ (by omega) (fun h=>by omega)).trans h.b2,?_,h.fr.trans h3 (fun k hk e=>by omega),h.n⟩
 rw [mY h.b3]
 simp
theorem BX.cell {w W:World} {T:TypeId} {R Z V:List Value} (h:BX w W T R Z V) (i:Nat) (v:Value) (hv:V[i]?=some v):W.cell? ⟨w.heap.size+1+1+1,i,none⟩=some v:=af h.b3 i v hv |> fun h=>by simpa using h
theorem BX.fD {w W:World} {T:TypeId} {R Z V:List Value} (h:BX w W T R Z V) (i:Nat):W.frozen? ⟨w.heap.size+1+1+1,i,none⟩=false:=by simp [World.frozen?,h.b3]
theorem BX.start (w:World) (T:TypeId) (R Z:List Value) (hR:R.length=7):BX w ((((w.alloc (.cells R.toArray 120)).alloc (.cells tm.toArray 120)).alloc (.cells Z.toArray T)).alloc (.cells Z.toArray T)) T R Z Z:=by
 have hs:=Dk w (.cells R.toArray 120) (.cells tm.toArray 120) (.cells Z.toArray T) (.cells Z.toArray T)
 exact ⟨hs.1,hs.2.1,hs.2.2.1,hs.2.2.2.1,mv _ _ _ _ _,hR⟩
structure BE (w W:World) (T:TypeId) (R V:List Value):Prop where
 b1:W.heap[w.heap.size+1]?=some (.cells R.toArray 120)
 b2:W.heap[w.heap.size+1+1]?=some (.cells V.toArray T)
 fr:Fr (fun _=>False) w W
theorem BX.fin {w W:World} {T:TypeId} {R Z V:List Value} (h:BX w W T R Z V) {q:Q} {xo:Option Addr} {len xc:Nat} {all:List Nat} (hR:QS q xo len xc all R) (hz:Z.length=V.length) (hi:(Tryz.prog.info? T).map (·.size)=some V.length) (h1:∀ v∈V,v.oneCell'=true) :
  (∃ W1 W2,(Instr.storeAt 120 (.pointer (some ⟨w.heap.size+1,0,none⟩)) (.agg R.toArray)).run Tryz.prog W = .ok () W1∧(Instr.storeAt T (.pointer (some ⟨w.heap.size+1+1,0,none⟩)) (.agg V.toArray)).run Tryz.prog W1 = .ok () W2∧Fr (fun k=>k=w.heap.size+1∨k=w.heap.size+1+1) W W1∧Fr (fun k=>k=w.heap.size+1∨k=w.heap.size+1+1) W W2∧BE w W2 T R V):=by
 have hl:=h.lt
 obtain ⟨W1,e1,c1,f1⟩:=bQ (P:=Tryz.prog) (ty:=120) tm R h.b1 (by rw [h.n];rfl) (by rw [h.n];exact Tryz.al) hR.one
 have hs:=f1.size
 obtain ⟨W2,e2,c2,f2⟩:=bQ (P:=Tryz.prog) (ty:=T) Z V ((f1.block _ (by omega) (fun h=>by omega)).trans h.b2) hz hi h1
 have g1:=f1.mono (T:=fun k=>k=w.heap.size+1∨k=w.heap.size+1+1) (fun _ _ h=>.inl h)
 have g2:=g1.trans f2 (fun k hk e=>.inr e)
 exact ⟨W1,W2,e1,e2,g1,g2,(f2.block _ (by omega) (fun h=>by omega)).trans c1,c2,h.fr.trans g2 (fun k hk e=>by omega)⟩
theorem BX.sK {w W W':World} {T:TypeId} {R Z V:List Value} (h:BX w W T R Z V) (hf:Fr (fun k=>k=w.heap.size+1∨k=w.heap.size+1+1) W W'):W'.rangeAt w.heap.size 0 R∧W'.rangeAt (w.heap.size+1+1+1) 0 V:=by
 have hl:=h.lt
 exact ⟨af ((hf.block _ (by omega) (fun h=>by omega)).trans h.b0),af ((hf.block _ (by omega) (fun h=>by omega)).trans h.b3)⟩
theorem cT {P:Program} {fn:Func} {S:Ending→World→Prop} {p1 p2:Tmp} {t1 t2:TypeId} {tmps:Array Value} {w W:World} {R V:List Value} (hB:BE w W t2 R V) (h:fn.results = #[.cell p1 t1,.cell p2 t2]) (d1 d2:TypeDesc)
  (hp1:tmps.getD p1 undef = .pointer (some ⟨w.heap.size+1,0,none⟩)) (hp2:tmps.getD p2 undef = .pointer (some ⟨w.heap.size+1+1,0,none⟩)) (hu1:P.underlying t1=some d1) (hd1:d1.isRow=true) (hi1:(P.info? t1).map (·.size)=some R.length)
  (hu2:P.underlying t2=some d2) (hd2:d2.isRow=true) (hi2:(P.info? t2).map (·.size)=some V.length) (hS:S (.returned (.tuple #[.agg R.toArray,.agg V.toArray])) W):bodyPost P fn S .ret ⟨tmps,[]⟩ W:=by
 refine bodyPost_ret (v:=.tuple #[.agg R.toArray,.agg V.toArray]) ?_ rfl hS
 have hp1':tmps[p1]?.getD undef = .pointer (some ⟨w.heap.size+1,0,none⟩):=by simpa using hp1
 have hp2':tmps[p2]?.getD undef = .pointer (some ⟨w.heap.size+1+1,0,none⟩):=by simpa using hp2
 simp [results,h,hp1',hp2',asAddr,run_loadVar_mid W _ 0 t1 R d1 (af hB.b1) hu1 hd1 hi1,run_loadVar_mid W _ 0 t2 V d2 (af hB.b2) hu2 hd2 hi2]
theorem Tryz.ey:(Tryz.prog.info? 59).map (·.size)=some 5:=by kernel_rfl
def Bh (first:Bool) (nm before:ByteArray):Nat:=if first=false∧sle nm before=true then 6 else 0
def lv (gone:Bool) (k:Nat):Nat:=if k<1∨3<k∨(k=3∧gone=false) then 5 else 0
def Q.eO (q:Q) (nm:ByteArray) (k:Nat):Q × cJ:=
 if k=1 then ((q.many dR 0 64).1,⟨nm,1,strOf (q.many dR 0 64).2,0,0⟩)
 else if k=2 then (((q.cf cN 5).1.cf dS 1).1.ai (bL 1 21 4 ((q.cf cN 5).1.cf dS 1).2),⟨nm,2,⟨#[]⟩,(q.cf cN 5).2,((q.cf cN 5).1.cf dS 1).2⟩)
 else (q,⟨nm,k,⟨#[]⟩,0,0⟩)
def Q.fY (q:Q) (before:ByteArray) (first:Bool):Q:=(q.many bX 1 64).1.ai (Bh first (strOf (q.many bX 1 64).2) before)
def Q.dw (q:Q) (before:ByteArray) (first gone:Bool):Q × cJ:=
 (((q.fY before first).cf bq 1).1.ai (lv gone ((q.fY before first).cf bq 1).2)).eO (strOf (q.many bX 1 64).2) ((q.fY before first).cf bq 1).2
def Ax:List Value:=[.string ⟨#[]⟩,.int .u8 0,.string ⟨#[]⟩,.float .f32 0,.int .u8 0]
theorem oI {w:World} {xo:Option Addr} {len xc:Nat} {all:List Nat} {R:List Value} {q:Q} (A:nL w xo len xc all) (h:QS q xo len xc all R) (before:ByteArray) (first gone:Bool) :
  Calls Tryz.prog 126 #[.agg R.toArray,.string before,.bool first,.bool gone] w fun e w'=>∃ R',e = .returned (.tuple #[.agg R'.toArray,.agg (q.dw before first gone).2.vs.toArray])∧QS (q.dw before first gone).1 xo len xc all R'∧Fr (fun _=>False) w w':=by
 have hleq:=wU
 have HA:=ae A
 have HQ:=ae h
 unfold Q.dw Q.fY
 have HM:=ae (fun w' hf=>km (w':=w') A hf h bX 1 64 (by decide))
 obtain ⟨m,hm⟩:∃ m,q.many bX 1 64=m:=⟨_,rfl⟩
 rw [hm] at HM ⊢
 obtain ⟨nm,hnm⟩:∃ x,strOf m.2=x:=⟨_,rfl⟩
 rw [hnm]
 obtain ⟨q1,hq1⟩:∃ x,m.1.ai (Bh first nm before)=x:=⟨_,rfl⟩
 rw [hq1]
 obtain ⟨k,hk⟩:∃ x,q1.cf bq 1=x:=⟨_,rfl⟩
 have hkl:k.2<256:=by rw [← hk];exact Q.go_lt _ 1 0
 rw [hk]
 obtain ⟨q2,hq2⟩:∃ x,k.1.ai (lv gone k.2)=x:=⟨_,rfl⟩
 rw [hq2]
 obtain ⟨kk,hkk⟩:∃ x,k.2=x:=⟨_,rfl⟩
 rw [hkk] at hkl hq2 ⊢
 have HE:=ae (And.intro hm (And.intro hnm (And.intro hq1 (And.intro hk (And.intro hq2 hkk)))))
 clear hm hnm hq1 hk hq2 hkk
 obtain ⟨ha,ho,last,rfl,hla⟩:=h
 rw [bT]
 have HB0:=ae (BX.start w 59 (q.rv xo len xc last).toList Ax rfl)
 unfold Q.rv at HB0 ⊢
 clear ha ho hla A
 go_enter Tryz.func126,Tryz.ntmps126
 go_wp2_with fail
 have hl0:=(aa HB0).lt
 refine ((aa HM) _ (mv _ _ _ _ _)).mono ?_
 rintro e w2 ⟨R2,sx,sn,sc,rfl,hQ2,hs2,hn2,hf2⟩
 have hB2:=(aa HB0).aE hf2
 obtain ⟨w3,hst,hB3,hf3⟩:=hB2.bp hQ2
 have hs3:=hs2.fr hf3 (fun g o m c e hx=>by have:=hn2 g o m c e;simp at this;omega)
 have hcv:=iK w3 _ _ hs3
 rw [(aa HE).2.1] at hcv
 have HST:=ae hst
 have HB3:=ae hB3
 have HQ2:=ae hQ2
 clear hst hB2 hB3 hf3 hs2 hs3 hn2 hf2 hQ2 hl0 HB0 HM
 have r0:=(aa HB3).cell 0 _ rfl
 have rz0:=(aa HB3).fD 0
 have hl0:=ab r0
 go_upto_region 4 with (((with_reducible refine aw ?_);refine ag rfl 120 (.tmp 4) (.tmp 17) rfl _ _ rfl rfl (aa HST) ?_))
 have hB4:BX w _ 59 R2 Ax [.string nm,.int .u8 0,.string ⟨#[]⟩,.float .f32 0,.int .u8 0]:=(aa HB3).bU 0 (.string nm)
 have HB4:=ae hB4
 have r0':=hB4.cell 0 _ rfl
 clear hB4 r0 rz0 hl0 hcv HST HB3
 go_cut [] from 22 to 31 (fun wx=>∃ R',QS q1 xo len xc all R'∧BX w wx 59 R' Ax [.string nm,.int .u8 0,.string ⟨#[]⟩,.float .f32 0,.int .u8 0])
 case first =>
  cases first
  ·go_wp2_with (first|((with_reducible refine aA 22 ?_);refine wpList_load_mid rfl 120 (.tmp 4) rfl w.heap.size 0 rfl _ _ (af (aa HB4).b0) Tryz.underlying120 rfl (by rw [(aa HB4).n];exact Tryz.al) ?_))
   refine (fF (aa HA).hl (aa HQ2) _ 6 (Bh false nm before) (by decide) (by decide) (by unfold Bh;simp)).mono ?_
   rintro e w5 ⟨R5,rfl,hQ5,hf5⟩
   rw [(aa HE).2.2.1] at hQ5
   obtain ⟨w6,hst,hB6,_⟩:=((aa HB4).aE hf5).bp hQ5
   have HST:=ae hst
   have HX:=ae (And.intro hQ5 hB6)
   clear hst hQ5 hB6 hf5
   go_wp2_with (first|((with_reducible refine aw ?_);refine ag rfl 120 (.tmp 4) (.tmp 31) rfl _ _ rfl rfl (aa HST) ?_))
   go_meet
   case rel=>exact ⟨R5,(aa HX).1,(aa HX).2⟩
  ·go_wp2_with (first|((with_reducible refine aA 22 ?_);refine wpList_load_mid rfl 120 (.tmp 4) rfl w.heap.size 0 rfl _ _ (af (aa HB4).b0) Tryz.underlying120 rfl (by rw [(aa HB4).n];exact Tryz.al) ?_))
   refine (fF (aa HA).hl (aa HQ2) _ 6 (Bh true nm before) (by decide) (by decide) (by unfold Bh;simp)).mono ?_
   rintro e w5 ⟨R5,rfl,hQ5,hf5⟩
   rw [(aa HE).2.2.1] at hQ5
   obtain ⟨w6,hst,hB6,_⟩:=((aa HB4).aE hf5).bp hQ5
   have HST:=ae hst
   have HX:=ae (And.intro hQ5 hB6)
   clear hst hQ5 hB6 hf5
   go_wp2_with (first|((with_reducible refine aw ?_);refine ag rfl 120 (.tmp 4) (.tmp 31) rfl _ _ rfl rfl (aa HST) ?_))
   go_meet
   case rel=>exact ⟨R5,(aa HX).1,(aa HX).2⟩
 case rest =>
  obtain ⟨R5,hQ5,hB5⟩:=hcut
  rename World=>wc
  clear HB4 r0' HQ2 hleq
  have HB5:=ae hB5
  have HQ5:=ae hQ5
  clear hB5 hQ5
  go_wp2_with (first|((with_reducible refine aA 33 ?_);refine wpList_load_mid rfl 120 (.tmp 4) rfl w.heap.size 0 rfl _ _ (af (aa HB5).b0) Tryz.underlying120 rfl (by rw [(aa HB5).n];exact Tryz.al) ?_))
  refine (dZ (aa HA) (aa HB5).fr (aa HQ5) bq 1 (.inl rfl)).mono ?_
  rintro e w6 ⟨R6,rfl,hQ6,hf6⟩
  rw [(aa HE).2.2.2.1] at hQ6 ⊢
  rw [(aa HE).2.2.2.2.2]
  obtain ⟨w7,hst,hB7,_⟩:=((aa HB5).aE hf6).bp hQ6
  have HST:=ae hst
  have HB7:=ae hB7
  have HQ6:=ae hQ6
  clear hst hB7 hQ6 hf6 HB5 HQ5
  go_upto_region 6 with (first|((with_reducible refine aw ?_);refine ag rfl 120 (.tmp 4) (.tmp 35) rfl _ _ rfl rfl (aa HST) ?_))
  clear HST
  go_cut [] from 37 to 52 (fun wx=>∃ R',QS q2 xo len xc all R'∧BX w wx 59 R' Ax [.string nm,.int .u8 0,.string ⟨#[]⟩,.float .f32 0,.int .u8 0])
  case first =>
   have hfk:∀ so,(if so=true then 5 else 0)=lv gone kk→∀ w',Calls Tryz.prog 99 #[.agg R6.toArray,.bool so,.int .i64 (5:Nat)] w' fun e w''=>∃ R',e = .returned (.agg R'.toArray)∧QS q2 xo len xc all R'∧Fr (fun _=>False) w' w'':=fun so h w'=>by
    have hb:=fF (w':=w') (aa HA).hl (aa HQ6) so 5 _ (by decide) (by decide) h
    rw [(aa HE).2.2.2.2.1] at hb
    exact hb
   have HK:=ae hfk
   clear hfk
   rcases (by omega:kk=0∨kk=1∨kk=2∨kk=3∨3<kk) with rfl|rfl|rfl|rfl|h3
   ·go_wp2_with (first|((with_reducible refine aA 37 ?_);refine wpList_load_mid rfl 120 (.tmp 4) rfl w.heap.size 0 rfl _ _ (af (aa HB7).b0) Tryz.underlying120 rfl (by rw [(aa HB7).n];exact Tryz.al) ?_))
    refine ((aa HK) _ (by simp [lv]) _).mono ?_
    rintro e w8 ⟨R8,rfl,hQ8,hf8⟩
    obtain ⟨w9,hst,hB9,_⟩:=((aa HB7).aE hf8).bp hQ8
    have HST:=ae hst
    have HX:=ae (And.intro hQ8 hB9)
    clear hst hQ8 hB9 hf8
    go_wp2_with (first|((with_reducible refine aw ?_);refine ag rfl 120 (.tmp 4) (.tmp 52) rfl _ _ rfl rfl (aa HST) ?_))
    go_meet
    case rel=>exact ⟨R8,(aa HX).1,(aa HX).2⟩
   ·go_wp2_with (first|((with_reducible refine aA 37 ?_);refine wpList_load_mid rfl 120 (.tmp 4) rfl w.heap.size 0 rfl _ _ (af (aa HB7).b0) Tryz.underlying120 rfl (by rw [(aa HB7).n];exact Tryz.al) ?_))
    refine ((aa HK) _ (by simp [lv]) _).mono ?_
    rintro e w8 ⟨R8,rfl,hQ8,hf8⟩
    obtain ⟨w9,hst,hB9,_⟩:=((aa HB7).aE hf8).bp hQ8
    have HST:=ae hst
    have HX:=ae (And.intro hQ8 hB9)
    clear hst hQ8 hB9 hf8
    go_wp2_with (first|((with_reducible refine aw ?_);refine ag rfl 120 (.tmp 4) (.tmp 52) rfl _ _ rfl rfl (aa HST) ?_))
    go_meet
    case rel=>exact ⟨R8,(aa HX).1,(aa HX).2⟩
   ·go_wp2_with (first|((with_reducible refine aA 37 ?_);refine wpList_load_mid rfl 120 (.tmp 4) rfl w.heap.size 0 rfl _ _ (af (aa HB7).b0) Tryz.underlying120 rfl (by rw [(aa HB7).n];exact Tryz.al) ?_))
    refine ((aa HK) _ (by simp [lv]) _).mono ?_
    rintro e w8 ⟨R8,rfl,hQ8,hf8⟩
    obtain ⟨w9,hst,hB9,_⟩:=((aa HB7).aE hf8).bp hQ8
    have HST:=ae hst
    have HX:=ae (And.intro hQ8 hB9)
    clear hst hQ8 hB9 hf8
    go_wp2_with (first|((with_reducible refine aw ?_);refine ag rfl 120 (.tmp 4) (.tmp 52) rfl _ _ rfl rfl (aa HST) ?_))
    go_meet
    case rel=>exact ⟨R8,(aa HX).1,(aa HX).2⟩
   ·cases gone
    ·go_wp2_with (first|((with_reducible refine aA 37 ?_);refine wpList_load_mid rfl 120 (.tmp 4) rfl w.heap.size 0 rfl _ _ (af (aa HB7).b0) Tryz.underlying120 rfl (by rw [(aa HB7).n];exact Tryz.al) ?_))
     refine ((aa HK) _ (by simp [lv]) _).mono ?_
     rintro e w8 ⟨R8,rfl,hQ8,hf8⟩
     obtain ⟨w9,hst,hB9,_⟩:=((aa HB7).aE hf8).bp hQ8
     have HST:=ae hst
     have HX:=ae (And.intro hQ8 hB9)
     clear hst hQ8 hB9 hf8
     go_wp2_with (first|((with_reducible refine aw ?_);refine ag rfl 120 (.tmp 4) (.tmp 52) rfl _ _ rfl rfl (aa HST) ?_))
     go_meet
     case rel=>exact ⟨R8,(aa HX).1,(aa HX).2⟩
    ·go_wp2_with (first|((with_reducible refine aA 37 ?_);refine wpList_load_mid rfl 120 (.tmp 4) rfl w.heap.size 0 rfl _ _ (af (aa HB7).b0) Tryz.underlying120 rfl (by rw [(aa HB7).n];exact Tryz.al) ?_))
     refine ((aa HK) _ (by simp [lv]) _).mono ?_
     rintro e w8 ⟨R8,rfl,hQ8,hf8⟩
     obtain ⟨w9,hst,hB9,_⟩:=((aa HB7).aE hf8).bp hQ8
     have HST:=ae hst
     have HX:=ae (And.intro hQ8 hB9)
     clear hst hQ8 hB9 hf8
     go_wp2_with (first|((with_reducible refine aw ?_);refine ag rfl 120 (.tmp 4) (.tmp 52) rfl _ _ rfl rfl (aa HST) ?_))
     go_meet
     case rel=>exact ⟨R8,(aa HX).1,(aa HX).2⟩
   ·have c1:decide ((kk:Int)<1)=false:=decide_eq_false (by omega)
    have c2:decide (3<(kk:Int))=true:=decide_eq_true (by omega)
    have c3:decide ((kk:Int) > 3)=true:=decide_eq_true (by omega)
    go_wp2_with (first|((with_reducible refine aA 37 ?_);refine wpList_load_mid rfl 120 (.tmp 4) rfl w.heap.size 0 rfl _ _ (af (aa HB7).b0) Tryz.underlying120 rfl (by rw [(aa HB7).n];exact Tryz.al) ?_))
    refine ((aa HK) _ (by simp [lv,h3]) _).mono ?_
    rintro e w8 ⟨R8,rfl,hQ8,hf8⟩
    obtain ⟨w9,hst,hB9,_⟩:=((aa HB7).aE hf8).bp hQ8
    have HST:=ae hst
    have HX:=ae (And.intro hQ8 hB9)
    clear hst hQ8 hB9 hf8
    go_wp2_with (first|((with_reducible refine aw ?_);refine ag rfl 120 (.tmp 4) (.tmp 52) rfl _ _ rfl rfl (aa HST) ?_))
    go_meet
    case rel=>exact ⟨R8,(aa HX).1,(aa HX).2⟩
  case rest =>
   obtain ⟨R8,hQ8,hB8⟩:=hcut
   rename World=>wd
   clear HB7 HQ6
   have HB8:=ae hB8
   have HQ8:=ae hQ8
   clear hB8 hQ8
   have hw8:IntKind.u8.wrap ((kk:Nat):Int)=kk:=by rw [IntKind.wrap_u8];omega
   have r1:=(aa HB8).cell 1 _ rfl
   have rz1:=(aa HB8).fD 1
   have hl1:=ab r1
   go_upto_region 8 with fail
   have HB9:Hid (BX w _ 59 R8 Ax [.string nm,.int .u8 (kk:Nat),.string ⟨#[]⟩,.float .f32 0,.int .u8 0]):=ae ((aa HB8).bU 1 (.int .u8 (kk:Nat)))
   clear r1 rz1 hl1 hw8 HB8
   rcases (by omega:kk=1∨kk=2∨(kk≠1∧kk≠2)) with rfl|rfl|⟨n1,n2⟩
   ·obtain ⟨t,ht⟩:∃ t,q2.many dR 0 64=t:=⟨_,rfl⟩
    obtain ⟨tx,htx⟩:∃ x,strOf t.2=x:=⟨_,rfl⟩
    have eg:q2.eO nm 1=(t.1,⟨nm,1,tx,0,0⟩):=by unfold Q.eO;rw [if_pos rfl,ht,htx]
    have HN:=ae (And.intro ht htx)
    clear ht htx
    go_wp2_with (first|((with_reducible refine aA 59 ?_);refine wpList_load_mid rfl 120 (.tmp 4) rfl w.heap.size 0 rfl _ _ (af (aa HB9).b0) Tryz.underlying120 rfl (by rw [(aa HB9).n];exact Tryz.al) ?_))
    refine (km (aa HA) (aa HB9).fr (aa HQ8) dR 0 64 (by decide)).mono ?_
    rw [(aa HN).1]
    rintro e wa ⟨Ra,tx0,tn0,tc0,rfl,hQa,hsa,hna,hfa⟩
    have hlb:=(aa HB9).lt
    obtain ⟨wb,hst,hBb,hfb⟩:=((aa HB9).aE hfa).bp hQa
    have hsb:=hsa.fr hfb (fun g o m c e hx=>by have:=hna g o m c e;omega)
    have hcv:=iK wb _ _ hsb
    rw [(aa HN).2] at hcv
    have HST:=ae hst
    have HBb:=ae hBb
    have HQa:=ae hQa
    clear hst hBb hfb hsa hsb hna hfa hQa hlb HB9 HQ8
    have r2:=(aa HBb).cell 2 _ rfl
    have rz2:=(aa HBb).fD 2
    have hl2:=ab r2
    go_upto_region 11 with (first|((with_reducible refine aw ?_);refine ag rfl 120 (.tmp 4) (.tmp 61) rfl _ _ rfl rfl (aa HST) ?_))
    have HBc:Hid (BX w _ 59 Ra Ax [.string nm,.int .u8 ((1:Nat):Int),.string tx,.float .f32 0,.int .u8 0]):=ae ((aa HBb).bU 2 (.string tx))
    clear r2 rz2 hl2 hcv HST HBb
    go_upto_region 18 with fail
    have hBd:=(aa HBc).aE (Fr.refl (fun _=>False) _).drew
    obtain ⟨W1,W2,s1,s2,f1,f2,hE1⟩:=hBd.fin (aa HQa) rfl Tryz.ey (by simp [Value.oneCell'])
    have HSd:=ae (fun W' hf=>hBd.sK (W':=W') hf)
    have HS1:=ae s1
    have HS2:=ae s2
    have HF1:=ae f1
    have HF2:=ae f2
    have HE1:=ae hE1
    clear s1 s2 f1 f2 hE1 hBd
    refine wp_region_held_drew (S:=(fun W:World=>W.rangeAt w.heap.size 0 Ra∧W.rangeAt (w.heap.size+1+1+1) 0 [.string nm,.int .u8 ((1:Nat):Int),.string tx,.float .f32 0,.int .u8 0])) (by kernel_rfl) ((aa HSd) _ (Fr.refl _ _)) (fun hHeld=>?_)
    refine cd (i:=0) rfl (yieldsIf_load_mid rfl 120 (.tmp 4) rfl w.heap.size 0 rfl _ _ (fun w h=>h.1) Tryz.underlying120 rfl (by rw [(aa HBc).n];exact Tryz.al)) hHeld ?_
    (try simp only [Act.put,aY])
    refine cd (i:=1) rfl (yieldsIf_load_mid rfl 59 (.tmp 10) rfl (w.heap.size+1+1+1) 0 rfl _ _ (fun w h=>h.2) Tryz.underlying59 rfl Tryz.ey) hHeld ?_
    (try simp only [Act.put,aY])
    refine wpAnyH_ready (rs:=[2]) (by kernel_rfl) (by simp) (AllReadyH.cons rfl (fun K hK=>?_) AllReadyH.nil)
    refine aP rfl 120 (.tmp 8) (.tmp 93) rfl _ _ (by simp [Act.eval]) (by simp [Act.eval]) (aa HS1) ?_
    (try clear hHeld)
    refine hK.out _ _ ((aa HSd) _ (aa HF1)) (fun hHeld=>?_)
    clear hK K
    (try simp only [Act.put,aY])
    refine wpAnyH_ready (rs:=[3]) (by kernel_rfl) (by simp) (AllReadyH.cons rfl (fun K hK=>?_) AllReadyH.nil)
    refine aP rfl 59 (.tmp 9) (.tmp 94) rfl _ _ (by simp [Act.eval]) (by simp [Act.eval]) (aa HS2) ?_
    (try clear hHeld)
    refine hK.out _ _ ((aa HSd) _ (aa HF2)) (fun hHeld=>?_)
    clear hK K
    (try simp only [Act.put,aY])
    refine wpAnyH_done (by kernel_rfl) ?_ _
    clear hHeld
    go_wp2_with fail
    exact cT (aa HE1) rfl _ _ (by simp) (by simp) Tryz.underlying120 rfl (by rw [(aa HBc).n];exact Tryz.al) Tryz.underlying59 rfl Tryz.ey ⟨Ra,by rw [eg];rfl,by rw [eg];exact aa HQa,(aa HE1).fr⟩
   ·obtain ⟨v,hv⟩:∃ v,q2.cf cN 5=v:=⟨_,rfl⟩
    obtain ⟨u,hu⟩:∃ u,v.1.cf dS 1=u:=⟨_,rfl⟩
    obtain ⟨q5,hq5⟩:∃ x,u.1.ai (bL 1 21 4 u.2)=x:=⟨_,rfl⟩
    have hvl:v.2<4294967296:=by rw [← hv];exact Q.go_lt _ 5 0
    have hul:u.2<256:=by rw [← hu];exact Q.go_lt _ 1 0
    obtain ⟨vv,hvv⟩:∃ x,v.2=x:=⟨_,rfl⟩
    obtain ⟨uu,huu⟩:∃ x,u.2=x:=⟨_,rfl⟩
    have eg:q2.eO nm 2=(q5,⟨nm,2,⟨#[]⟩,vv,uu⟩):=by unfold Q.eO;rw [if_neg (by decide),if_pos rfl,hv,hu,hq5,hvv,huu]
    rw [hvv] at hvl
    rw [huu] at hul hq5
    have HN:=ae (And.intro hv (And.intro hu (And.intro hq5 (And.intro hvv huu))))
    clear hv hu hq5 hvv huu
    go_wp2_with (first|((with_reducible refine aA 69 ?_);refine wpList_load_mid rfl 120 (.tmp 4) rfl w.heap.size 0 rfl _ _ (af (aa HB9).b0) Tryz.underlying120 rfl (by rw [(aa HB9).n];exact Tryz.al) ?_))
    refine (dZ (aa HA) (aa HB9).fr (aa HQ8) cN 5 (.inr (.inr rfl))).mono ?_
    rintro e wa ⟨Ra,rfl,hQa,hfa⟩
    rw [(aa HN).1] at hQa ⊢
    rw [(aa HN).2.2.2.1]
    obtain ⟨wb,hst,hBb,_⟩:=((aa HB9).aE hfa).bp hQa
    have HST:=ae hst
    have HBb:=ae hBb
    have HQa:=ae hQa
    clear hst hBb hfa hQa HB9 HQ8
    have r3:=(aa HBb).cell 3 _ rfl
    have rz3:=(aa HBb).fD 3
    have hl3:=ab r3
    have hw32:IntKind.u32.wrap ((vv:Nat):Int)=vv:=by rw [IntKind.wrap_u32];omega
    have hff:=Tryz.CT
    go_upto_region 15 with (first|((with_reducible refine aw ?_);refine ag rfl 120 (.tmp 4) (.tmp 71) rfl _ _ rfl rfl (aa HST) ?_))
    have HBc:Hid (BX w _ 59 Ra Ax [.string nm,.int .u8 ((2:Nat):Int),.string ⟨#[]⟩,.float .f32 vv,.int .u8 0]):=ae ((aa HBb).bU 3 (.float .f32 vv))
    clear r3 rz3 hl3 hw32 hff HST HBb
    go_wp2_with (first|((with_reducible refine aA 78 ?_);refine wpList_load_mid rfl 120 (.tmp 4) rfl w.heap.size 0 rfl _ _ (af (aa HBc).b0) Tryz.underlying120 rfl (by rw [(aa HBc).n];exact Tryz.al) ?_))
    refine (dZ (aa HA) (aa HBc).fr (aa HQa) dS 1 (.inl rfl)).mono ?_
    rintro e we ⟨Re,rfl,hQe,hfe⟩
    rw [(aa HN).2.1] at hQe ⊢
    rw [(aa HN).2.2.2.2]
    obtain ⟨wf,hst,hBf,_⟩:=((aa HBc).aE hfe).bp hQe
    have HST:=ae hst
    have HBf:=ae hBf
    have HQe:=ae hQe
    clear hst hBf hfe hQe HBc HQa
    go_upto_region 16 with (first|((with_reducible refine aw ?_);refine ag rfl 120 (.tmp 4) (.tmp 80) rfl _ _ rfl rfl (aa HST) ?_))
    clear HST
    go_cut [] from 82 to 89 (fun wx=>∃ R',QS q5 xo len xc all R'∧BX w wx 59 R' Ax [.string nm,.int .u8 ((2:Nat):Int),.string ⟨#[]⟩,.float .f32 vv,.int .u8 0])
    case first =>
     have hfk:∀ so,(if so=true then 4 else 0)=bL 1 21 4 uu→∀ w',Calls Tryz.prog 99 #[.agg Re.toArray,.bool so,.int .i64 (4:Nat)] w' fun e w''=>∃ R',e = .returned (.agg R'.toArray)∧QS q5 xo len xc all R'∧Fr (fun _=>False) w' w'':=fun so h w'=>by
      have hb:=fF (w':=w') (aa HA).hl (aa HQe) so 4 _ (by decide) (by decide) h
      rw [(aa HN).2.2.1] at hb
      exact hb
     have HK:=ae hfk
     clear hfk
     rcases (by omega:uu<1∨21<uu∨(1≤uu∧uu≤21)) with h3|h3|⟨h3,h4⟩
     ·have c1:decide ((uu:Int)<1)=true:=decide_eq_true (by omega)
      have c2:decide (21<(uu:Int))=false:=decide_eq_false (by omega)
      have c3:decide ((uu:Int) > 21)=false:=decide_eq_false (by omega)
      go_wp2_with (first|((with_reducible refine aA 82 ?_);refine wpList_load_mid rfl 120 (.tmp 4) rfl w.heap.size 0 rfl _ _ (af (aa HBf).b0) Tryz.underlying120 rfl (by rw [(aa HBf).n];exact Tryz.al) ?_))
      refine ((aa HK) _ (by simp [bL];omega) _).mono ?_
      rintro e wg ⟨Rg,rfl,hQg,hfg⟩
      obtain ⟨wh,hst,hBh,_⟩:=((aa HBf).aE hfg).bp hQg
      have HST:=ae hst
      have HX:=ae (And.intro hQg hBh)
      clear hst hQg hBh hfg
      go_wp2_with (first|((with_reducible refine aw ?_);refine ag rfl 120 (.tmp 4) (.tmp 89) rfl _ _ rfl rfl (aa HST) ?_))
      go_meet
      case rel=>exact ⟨Rg,(aa HX).1,(aa HX).2⟩
     ·have c1:decide ((uu:Int)<1)=false:=decide_eq_false (by omega)
      have c2:decide (21<(uu:Int))=true:=decide_eq_true (by omega)
      have c3:decide ((uu:Int) > 21)=true:=decide_eq_true (by omega)
      go_wp2_with (first|((with_reducible refine aA 82 ?_);refine wpList_load_mid rfl 120 (.tmp 4) rfl w.heap.size 0 rfl _ _ (af (aa HBf).b0) Tryz.underlying120 rfl (by rw [(aa HBf).n];exact Tryz.al) ?_))
      refine ((aa HK) _ (by simp [bL];omega) _).mono ?_
      rintro e wg ⟨Rg,rfl,hQg,hfg⟩
      obtain ⟨wh,hst,hBh,_⟩:=((aa HBf).aE hfg).bp hQg
      have HST:=ae hst
      have HX:=ae (And.intro hQg hBh)
      clear hst hQg hBh hfg
      go_wp2_with (first|((with_reducible refine aw ?_);refine ag rfl 120 (.tmp 4) (.tmp 89) rfl _ _ rfl rfl (aa HST) ?_))
      go_meet
      case rel=>exact ⟨Rg,(aa HX).1,(aa HX).2⟩
     ·have c1:decide ((uu:Int)<1)=false:=decide_eq_false (by omega)
      have c2:decide (21<(uu:Int))=false:=decide_eq_false (by omega)
      have c3:decide ((uu:Int) > 21)=false:=decide_eq_false (by omega)
      go_wp2_with (first|((with_reducible refine aA 82 ?_);refine wpList_load_mid rfl 120 (.tmp 4) rfl w.heap.size 0 rfl _ _ (af (aa HBf).b0) Tryz.underlying120 rfl (by rw [(aa HBf).n];exact Tryz.al) ?_))
      refine ((aa HK) _ (by simp [bL];omega) _).mono ?_
      rintro e wg ⟨Rg,rfl,hQg,hfg⟩
      obtain ⟨wh,hst,hBh,_⟩:=((aa HBf).aE hfg).bp hQg
      have HST:=ae hst
      have HX:=ae (And.intro hQg hBh)
      clear hst hQg hBh hfg
      go_wp2_with (first|((with_reducible refine aw ?_);refine ag rfl 120 (.tmp 4) (.tmp 89) rfl _ _ rfl rfl (aa HST) ?_))
      go_meet
      case rel=>exact ⟨Rg,(aa HX).1,(aa HX).2⟩
    case rest =>
     obtain ⟨Rg,hQg,hBg⟩:=hcut
     rename World=>wz
     clear HBf HQe
     have HBg:=ae hBg
     have HQg:=ae hQg
     clear hBg hQg
     have hw8:IntKind.u8.wrap ((uu:Nat):Int)=uu:=by rw [IntKind.wrap_u8];omega
     have r4:=(aa HBg).cell 4 _ rfl
     have rz4:=(aa HBg).fD 4
     have hl4:=ab r4
     go_upto_region 18 with fail
     have HBh:Hid (BX w _ 59 Rg Ax [.string nm,.int .u8 ((2:Nat):Int),.string ⟨#[]⟩,.float .f32 vv,.int .u8 (uu:Nat)]):=ae ((aa HBg).bU 4 (.int .u8 (uu:Nat)))
     clear r4 rz4 hl4 hw8 HBg
     have hBd:=(aa HBh).aE (Fr.refl (fun _=>False) _).drew
     obtain ⟨W1,W2,s1,s2,f1,f2,hE1⟩:=hBd.fin (aa HQg) rfl Tryz.ey (by simp [Value.oneCell'])
     have HSd:=ae (fun W' hf=>hBd.sK (W':=W') hf)
     have HS1:=ae s1
     have HS2:=ae s2
     have HF1:=ae f1
     have HF2:=ae f2
     have HE1:=ae hE1
     clear s1 s2 f1 f2 hE1 hBd
     refine wp_region_held_drew (S:=(fun W:World=>W.rangeAt w.heap.size 0 Rg∧W.rangeAt (w.heap.size+1+1+1) 0 [.string nm,.int .u8 ((2:Nat):Int),.string ⟨#[]⟩,.float .f32 vv,.int .u8 (uu:Nat)])) (by kernel_rfl) ((aa HSd) _ (Fr.refl _ _)) (fun hHeld=>?_)
     refine cd (i:=0) rfl (yieldsIf_load_mid rfl 120 (.tmp 4) rfl w.heap.size 0 rfl _ _ (fun w h=>h.1) Tryz.underlying120 rfl (by rw [(aa HBh).n];exact Tryz.al)) hHeld ?_
     (try simp only [Act.put,aY])
     refine cd (i:=1) rfl (yieldsIf_load_mid rfl 59 (.tmp 10) rfl (w.heap.size+1+1+1) 0 rfl _ _ (fun w h=>h.2) Tryz.underlying59 rfl Tryz.ey) hHeld ?_
     (try simp only [Act.put,aY])
     refine wpAnyH_ready (rs:=[2]) (by kernel_rfl) (by simp) (AllReadyH.cons rfl (fun K hK=>?_) AllReadyH.nil)
     refine aP rfl 120 (.tmp 8) (.tmp 93) rfl _ _ (by simp [Act.eval]) (by simp [Act.eval]) (aa HS1) ?_
     (try clear hHeld)
     refine hK.out _ _ ((aa HSd) _ (aa HF1)) (fun hHeld=>?_)
     clear hK K
     (try simp only [Act.put,aY])
     refine wpAnyH_ready (rs:=[3]) (by kernel_rfl) (by simp) (AllReadyH.cons rfl (fun K hK=>?_) AllReadyH.nil)
     refine aP rfl 59 (.tmp 9) (.tmp 94) rfl _ _ (by simp [Act.eval]) (by simp [Act.eval]) (aa HS2) ?_
     (try clear hHeld)
     refine hK.out _ _ ((aa HSd) _ (aa HF2)) (fun hHeld=>?_)
     clear hK K
     (try simp only [Act.put,aY])
     refine wpAnyH_done (by kernel_rfl) ?_ _
     clear hHeld
     go_wp2_with fail
     exact cT (aa HE1) rfl _ _ (by simp) (by simp) Tryz.underlying120 rfl (by rw [(aa HBh).n];exact Tryz.al) Tryz.underlying59 rfl Tryz.ey ⟨Rg,by rw [eg];rfl,by rw [eg];exact aa HQg,(aa HE1).fr⟩
   ·have eg:q2.eO nm kk=(q2,⟨nm,kk,⟨#[]⟩,0,0⟩):=by unfold Q.eO;rw [if_neg n1,if_neg n2]
    have e1:((kk:Int) == 1)=false:=by simp;omega
    have e2:((kk:Int) == 2)=false:=by simp;omega
    go_upto_region 18 with fail
    have hBd:=(aa HB9).aE (Fr.refl (fun _=>False) _).drew
    obtain ⟨W1,W2,s1,s2,f1,f2,hE1⟩:=hBd.fin (aa HQ8) rfl Tryz.ey (by simp [Value.oneCell'])
    have HSd:=ae (fun W' hf=>hBd.sK (W':=W') hf)
    have HS1:=ae s1
    have HS2:=ae s2
    have HF1:=ae f1
    have HF2:=ae f2
    have HE1:=ae hE1
    clear s1 s2 f1 f2 hE1 hBd
    refine wp_region_held_drew (S:=(fun W:World=>W.rangeAt w.heap.size 0 R8∧W.rangeAt (w.heap.size+1+1+1) 0 [.string nm,.int .u8 (kk:Nat),.string ⟨#[]⟩,.float .f32 0,.int .u8 0])) (by kernel_rfl) ((aa HSd) _ (Fr.refl _ _)) (fun hHeld=>?_)
    refine cd (i:=0) rfl (yieldsIf_load_mid rfl 120 (.tmp 4) rfl w.heap.size 0 rfl _ _ (fun w h=>h.1) Tryz.underlying120 rfl (by rw [(aa HB9).n];exact Tryz.al)) hHeld ?_
    (try simp only [Act.put,aY])
    refine cd (i:=1) rfl (yieldsIf_load_mid rfl 59 (.tmp 10) rfl (w.heap.size+1+1+1) 0 rfl _ _ (fun w h=>h.2) Tryz.underlying59 rfl Tryz.ey) hHeld ?_
    (try simp only [Act.put,aY])
    refine wpAnyH_ready (rs:=[2]) (by kernel_rfl) (by simp) (AllReadyH.cons rfl (fun K hK=>?_) AllReadyH.nil)
    refine aP rfl 120 (.tmp 8) (.tmp 93) rfl _ _ (by simp [Act.eval]) (by simp [Act.eval]) (aa HS1) ?_
    (try clear hHeld)
    refine hK.out _ _ ((aa HSd) _ (aa HF1)) (fun hHeld=>?_)
    clear hK K
    (try simp only [Act.put,aY])
    refine wpAnyH_ready (rs:=[3]) (by kernel_rfl) (by simp) (AllReadyH.cons rfl (fun K hK=>?_) AllReadyH.nil)
    refine aP rfl 59 (.tmp 9) (.tmp 94) rfl _ _ (by simp [Act.eval]) (by simp [Act.eval]) (aa HS2) ?_
    (try clear hHeld)
    refine hK.out _ _ ((aa HSd) _ (aa HF2)) (fun hHeld=>?_)
    clear hK K
    (try simp only [Act.put,aY])
    refine wpAnyH_done (by kernel_rfl) ?_ _
    clear hHeld
    go_wp2_with fail
    exact cT (aa HE1) rfl _ _ (by simp) (by simp) Tryz.underlying120 rfl (by rw [(aa HB9).n];exact Tryz.al) Tryz.underlying59 rfl Tryz.ey ⟨R8,by rw [eg];rfl,by rw [eg];exact aa HQ8,(aa HE1).fr⟩
theorem qA {P:Program} {w w':World} {ops:Array Oper} {rest:List Oper} {o:Oper} {a:Act} {Q:Exit→Act→World→Prop} (hgd:o.guard=none) (s x:Operand) (t u:TypeId)
  (ho:o.op = .call { callee:=.builtin .append,args:=#[s,x],argTypes:=#[t,u] }) (vs vx v':Value) (hs:a.eval s=vs) (hx:a.eval x=vx) (hr:(Builtin.append_ #[t,u] o.type #[vs,vx]).run P w = .ok v' w')
  (h:wpList P ops Q rest (a.put o.dst v') w'):wpList P ops Q (o::rest) a w:=by
 refine wpList_plain hgd fun K hK=>?_
 unfold Oper.wp execOp
 simp only [ho,resolve,invoke,builtin,Sem.run_bind,Sem.run_pure,Result.andThen_ok,List.map_toArray,List.map_cons,List.map_nil,hs,hx,hr]
 exact hK _ _ h
theorem kC {P:Program} {ops:Array Oper} {rest:List Oper} {op:Oper} {a:Act} {w:World} {Q:Exit→Act→World→Prop} (hw:Region.wanted op (yielded ops a.tmps)=true) (ty:TypeId) (x:Operand) (ho:op.op = .load ty x)
  (b o:Nat) (hx:a.eval x = .pointer (some ⟨b,o,none⟩)) (cs:List Value) (d:TypeDesc) (hc:w.rangeAt b o cs)
  (hu:P.underlying ty=some d) (hd:d.isRow=true) (hi:(P.info? ty).map (·.size)=some cs.length)
  (h:wpList P ops Q rest (a.put op.dst (.agg cs.toArray)) w):wpList P ops Q (op::rest) a w:=
 wpList_step fun K hK=>by rw [if_pos hw];exact wp_load_mid ty x ho b o hx cs d hc hu hd hi (hK _ _ h)
theorem Q.go_len (q:Q) (m:Int):(q.go 6 m).2.2.length≤q.all.length:=by
 unfold Q.go Q.step
 repeat' split
 all_goals simp
 all_goals omega
theorem Q.rf (q:Q) (nm:ByteArray) (least most:Int):(q.many nm least most).2.length≤q.all.length:=by
 have:=(q.ah nm).go_len most
 rw [Q.ba] at this
 exact this
def Q.cm (q:Q) (nm:ByteArray) (most:Int):Q × Nat:=(((q.ah nm).go 7 most).1,((q.ah nm).go 7 most).2.1)
theorem Q.sr (q:Q) (nm:ByteArray) (most:Int):(q.cm nm most).1.all=q.all:=by
 show ((q.ah nm).go 7 most).1.all=q.all
 rw [Q.go_all,Q.ba]
theorem ue {w w':World} {xo:Option Addr} {len xc:Nat} {all:List Nat} {R:List Value} {q:Q} (A:nL w xo len xc all) (hf:Fr (fun _=>False) w w') (h:QS q xo len xc all R) (nm:ByteArray) (most:Int) (hk:most<9223372036854775808) :
  Calls Tryz.prog 105 #[.agg R.toArray,.string nm,.int .i64 most] w' fun e w''=>∃ R',e = .returned (.tuple #[.agg R'.toArray,.int .i64 ((q.cm nm most).2:Nat)])∧QS (q.cm nm most).1 xo len xc all R'∧Fr (fun _=>False) w' w'':=by
 obtain ⟨ha,ho,last,rfl,hla⟩:=h
 obtain ⟨hx,hl,hc,hb⟩:=A
 subst ha hl
 rw [bT,← Q.dx rfl]
 refine (zh q nm most xo xc last w' ho (hx.fr hf (fun _ _ _ _ _ h=>h)) hc hb hk hla).mono ?_
 rintro e w2 ⟨l2,rfl,h1,h2⟩
 exact ⟨((q.cm nm most).1.rv xo q.all.length xc l2).toList,by rw [bT,← Q.dx (by rw [Q.sr])];rfl,⟨Q.sr _ _ _,Q.go_ok (Q.cP ho nm) _ _,l2,rfl,h1⟩,h2⟩
theorem pJ {w':World} {xo:Option Addr} {len xc:Nat} {all:List Nat} {R:List Value} {q:Q} (h:QS q xo len xc all R) :
  Calls Tryz.prog 58 #[.agg R.toArray] w' fun e w''=>e = .returned (.bool (decide (q.f=none)))∧Fr (fun _=>False) w' w'':=by
 obtain ⟨ha,ho,last,rfl,hla⟩:=h
 rw [bT]
 refine (dC xo len xc (q.at_:Nat) (last:Nat) ((bo q.f).2.1:Nat) ((bo q.f).2.2:Nat) q.nm (bo q.f).1 w').mono ?_
 rintro e w2 ⟨rfl,rfl⟩
 refine ⟨?_,aB _ _⟩
 have e1:((((bo q.f).2.2:Nat):Int) == 0)=decide (q.f=none):=by
  have:=gx ho
  by_cases hq:q.f=none
  ·have h0:=this.2 hq
   rw [h0]
   simp [hq]
  ·have h0:¬ (bo q.f).2.2=0:=fun h=>hq (this.1 h)
   have h1:¬ (((bo q.f).2.2:Nat):Int)=0:=by omega
   rw [decide_eq_false hq]
   exact beq_eq_false_iff_ne.2 h1
 rw [e1]
theorem Q.tY (q:Q) (nm:ByteArray) (k:Nat) (hn:nm.size<9223372036854775808) (hk:k<256) (hl:q.all.length≤16777216):(q.eO nm k).2.ok:=by
 unfold Q.eO
 split
 ·exact ⟨hn,of_decide_eq_true rfl,by show (strOf _).size<_;rw [ed];have:=q.rf dR 0 64;omega,of_decide_eq_true rfl,of_decide_eq_true rfl⟩
 split
 ·exact ⟨hn,of_decide_eq_true rfl,of_decide_eq_true rfl,Q.go_lt _ 5 0,Q.go_lt _ 1 0⟩
 ·exact ⟨hn,hk,of_decide_eq_true rfl,of_decide_eq_true rfl,of_decide_eq_true rfl⟩
theorem Q.rO (q:Q) (before:ByteArray) (first:Bool):(q.fY before first).all=q.all:=by
 unfold Q.fY
 rw [Q.bZ,Q.iw]
theorem Q.xU (q:Q) (before:ByteArray) (first gone:Bool) (hl:q.all.length≤16777216):(q.dw before first gone).2.ok:=by
 unfold Q.dw
 refine Q.tY _ _ _ ?_ (Q.go_lt _ 1 0) ?_
 ·rw [ed];have:=q.rf bX 1 64;omega
 ·rw [Q.bZ,Q.dP,Q.rO];exact hl
def Q.dX (gone:Bool) (q:Q):Nat→Q × List cJ × ByteArray
 | 0=>(q,[],⟨#[]⟩)
 | i+1=>(((q.dX gone i).1.dw (q.dX gone i).2.2 (decide (i=0)) gone).1,(q.dX gone i).2.1++[((q.dX gone i).1.dw (q.dX gone i).2.2 (decide (i=0)) gone).2],((q.dX gone i).1.dw (q.dX gone i).2.2 (decide (i=0)) gone).2.name)
theorem Q.Bm (gone:Bool) (q:Q) (i:Nat):(q.dX gone i).2.1.length=i:=by
 induction i with
 | zero=>rfl
 | succ i ih=>simp [Q.dX,ih]
def Q.bE (q:Q) (used:Bool):Q:=(q.cm ak 32).1.ai (if used=false∧0<(q.cm ak 32).2 then 4 else 0)
structure BY (w W:World) (R:List Value):Prop where
 b0:W.heap[w.heap.size]?=some (.cells R.toArray 120)
 b1:W.heap[w.heap.size+1]?=some (.cells tm.toArray 120)
 fr:Fr (fun _=>False) w W
 n:R.length=7
theorem BY.lt {w W:World} {R:List Value} (h:BY w W R):w.heap.size+1<W.heap.size:=lt_of_block h.b1
theorem BY.aE {w W W':World} {R:List Value} {S:Nat→Prop} (h:BY w W R) (hf:Fr S W W') (hS:∀ k,S k→w.heap.size+1<k):BY w W' R:=by
 have hl:=h.lt
 exact ⟨(hf.block _ (by omega) (fun h=>by have:=hS _ h;omega)).trans h.b0,(hf.block _ (by omega) (fun h=>by have:=hS _ h;omega)).trans h.b1,h.fr.trans hf (fun k hk e=>by have:=hS _ e;omega),h.n⟩
theorem BY.bp {w W:World} {R R':List Value} (h:BY w W R) {q:Q} {xo:Option Addr} {len xc:Nat} {all:List Nat} (hR:QS q xo len xc all R') :
  ∃ W',(Instr.storeAt 120 (.pointer (some ⟨w.heap.size,0,none⟩)) (.agg R'.toArray)).run Tryz.prog W = .ok () W'∧BY w W' R'∧Fr (fun k=>k=w.heap.size) W W':=by
 have hl:=h.lt
 obtain ⟨W',h1,h2,h3⟩:=bQ (P:=Tryz.prog) (ty:=120) R R' h.b0 (by rw [h.n,hR.len]) (by rw [hR.len];exact Tryz.al) hR.one
 exact ⟨W',h1,⟨h2,(h3.block _ (by omega) (fun h=>by omega)).trans h.b1,h.fr.trans h3 (fun k hk e=>by omega),hR.len⟩,h3⟩
theorem BY.start (w:World) (R:List Value) (hR:R.length=7):BY w ((w.alloc (.cells R.toArray 120)).alloc (.cells tm.toArray 120)) R:=by
 have hs:=uo w (.cells R.toArray 120) (.cells tm.toArray 120)
 exact ⟨hs.1,hs.2.1,(aB w _).alloc _,hR⟩
theorem ze {n i:Nat} (h:i<n):n - (intOf (.int .i64 ((i:Int)+1))).toNat<n - (intOf (.int .i64 (i:Nat))).toNat:=by
 simp only [intOf]
 omega
theorem AW {n:Nat} (h:n<9223372036854775807):wrap64 ((n:Int)+1)=(n:Int)+1:=by unfold wrap64;omega
theorem Q.fx (q:Q) (nm:ByteArray) (m:Nat):(q.cm nm m).2≤m:=by
 unfold Q.cm Q.go
 generalize q.ah nm=r
 unfold Q.step
 dsimp only
 split
 ·exact Nat.zero_le _
 split
 ·exact Nat.zero_le _
 split
 ·exact Nat.zero_le _
 split
 ·exact Nat.zero_le _
 split
 ·exact Nat.zero_le _
 split
 ·exact Nat.zero_le _
 rename_i h
 split
 ·show r.num 4≤m
  have:¬ (m:Int)<(r.num 4:Int):=fun hx=>h ⟨.inr rfl,hx⟩
  omega
 split <;> exact Nat.zero_le _
theorem nL.aE {w w':World} {xo:Option Addr} {len xc:Nat} {all:List Nat} (h:nL w xo len xc all) (hf:Fr (fun _=>False) w w'):nL w' xo len xc all:=⟨h.hx.fr hf (fun _ _ _ _ _ h=>h),h.hl,h.hc,h.hb⟩
theorem dI.cO {w w':World} {base:Nat} {x:Value} {l:List cJ} {S:Nat→Prop} (h:dI w base x l (fun _=>False)) (hf:Fr S w w') (hS:∀ k,S k→k<base∨w.heap.size≤k):dI w' base x l (fun _=>False):=
 ⟨fun _ _ h=>h,ay h.row (fun k hk=>hf.block k (h.row.lt k hk).2 (fun hx=>by have:=hS k hx;have:=h.row.lt k hk;omega)),h.ok⟩
theorem dI.base {w:World} {base base':Nat} {x:Value} {l:List cJ} (h:dI w base x l (fun _=>False)) (hb:base'≤base):dI w base' x l (fun _=>False):=⟨fun _ _ h=>h,⟨h.row.1,h.row.2.imp (fun h=>h) (fun ⟨g,cap,cur,e,hg,r⟩=>⟨g,cap,cur,e,by omega,r⟩)⟩,h.ok⟩
theorem iH {w:World} {xo:Option Addr} {len xc:Nat} {all:List Nat} {R:List Value} {q:Q} (A:nL w xo len xc all) (h:QS q xo len xc all R) (used gone:Bool) :
  Calls Tryz.prog 102 #[.agg R.toArray,.bool used,.bool gone] w fun e w'=>∃ R' v i,e = .returned (.tuple #[.agg R'.toArray,v])∧i≤(q.cm ak 32).2∧(i=(q.cm ak 32).2∨((q.bE used).dX gone i).1.f≠none)∧QS ((q.bE used).dX gone i).1 xo len xc all R'∧dI w' w.heap.size v ((q.bE used).dX gone i).2.1 (fun _=>False)∧Fr (fun _=>False) w w':=by
 have hnot:∀ (x:Bool) (w:World),(Op.unary .not (.bool x)).run Tryz.prog w = .ok (.bool (!x)) w:=fun _ _=>rfl
 have hall:all.length≤16777216:=by rw [A.hl];exact A.hb
 have HA:=ae A
 have HQ:=ae h
 unfold Q.bE
 obtain ⟨c,hc⟩:∃ c,q.cm ak 32=c:=⟨_,rfl⟩
 have hcl:c.2≤32:=by rw [← hc];exact Q.fx _ _ 32
 rw [hc]
 obtain ⟨cn,hcn⟩:∃ x,c.2=x:=⟨_,rfl⟩
 rw [hcn] at hcl ⊢
 obtain ⟨q2,hq2⟩:∃ x,c.1.ai (if used=false∧0<cn then 4 else 0)=x:=⟨_,rfl⟩
 rw [hq2]
 have HE:=ae (And.intro hc (And.intro hcn hq2))
 clear hc hcn hq2
 obtain ⟨ha,ho,last,rfl,hla⟩:=h
 rw [bT]
 have HB0:=ae (BY.start w (q.rv xo len xc last).toList rfl)
 unfold Q.rv at HB0 ⊢
 clear ha ho hla A
 go_enter Tryz.func102,Tryz.ntmps102
 go_wp2_with fail
 refine (ue (aa HA) ((aB w _).alloc _) (aa HQ) ak 32 (by decide)).mono ?_
 rintro e w2 ⟨R2,rfl,hQ2,hf2⟩
 rw [(aa HE).1] at hQ2 ⊢
 rw [(aa HE).2.1]
 obtain ⟨w3,hst,hB3,_⟩:=((aa HB0).aE hf2 (fun _ h=>h.elim)).bp hQ2
 have HST:=ae hst
 have HB3:=ae hB3
 have HQ2:=ae hQ2
 clear hst hB3 hQ2 hf2 HB0 HQ
 go_upto_region 2 with (first|((with_reducible refine aw ?_);refine ag rfl 120 (.tmp 3) (.tmp 17) rfl _ _ rfl rfl (aa HST) ?_))
 clear HST
 go_cut [] from 19 to 26 (fun wx=>∃ R',QS q2 xo len xc all R'∧BY w wx R')
 case first =>
  have hfk:∀ so,(if so=true then 4 else 0)=(if used=false∧0<cn then 4 else 0)→∀ w',Calls Tryz.prog 99 #[.agg R2.toArray,.bool so,.int .i64 (4:Nat)] w' fun e w''=>∃ R',e = .returned (.agg R'.toArray)∧QS q2 xo len xc all R'∧Fr (fun _=>False) w' w'':=fun so h w'=>by
   have hb:=fF (w':=w') (aa HA).hl (aa HQ2) so 4 _ (by decide) (by decide) h
   rw [(aa HE).2.2] at hb
   exact hb
  have HK:=ae hfk
  clear hfk
  cases used
  ·go_wp2_with (first|((with_reducible refine aA 19 ?_);refine wpList_load_mid rfl 120 (.tmp 3) rfl w.heap.size 0 rfl _ _ (af (aa HB3).b0) Tryz.underlying120 rfl (by rw [(aa HB3).n];exact Tryz.al) ?_))
   refine ((aa HK) _ (by by_cases hz:0<cn <;> simp [hz];try omega) _).mono ?_
   rintro e w4 ⟨R4,rfl,hQ4,hf4⟩
   obtain ⟨w5,hst,hB5,_⟩:=((aa HB3).aE hf4 (fun _ h=>h.elim)).bp hQ4
   have HST:=ae hst
   have HX:=ae (And.intro hQ4 hB5)
   clear hst hQ4 hB5 hf4
   go_wp2_with (first|((with_reducible refine aw ?_);refine ag rfl 120 (.tmp 3) (.tmp 26) rfl _ _ rfl rfl (aa HST) ?_))
   go_meet
   case rel=>exact ⟨R4,(aa HX).1,(aa HX).2⟩
  ·go_wp2_with (first|((with_reducible refine aA 19 ?_);refine wpList_load_mid rfl 120 (.tmp 3) rfl w.heap.size 0 rfl _ _ (af (aa HB3).b0) Tryz.underlying120 rfl (by rw [(aa HB3).n];exact Tryz.al) ?_))
   refine ((aa HK) _ (by simp) _).mono ?_
   rintro e w4 ⟨R4,rfl,hQ4,hf4⟩
   obtain ⟨w5,hst,hB5,_⟩:=((aa HB3).aE hf4 (fun _ h=>h.elim)).bp hQ4
   have HST:=ae hst
   have HX:=ae (And.intro hQ4 hB5)
   clear hst hQ4 hB5 hf4
   go_wp2_with (first|((with_reducible refine aw ?_);refine ag rfl 120 (.tmp 3) (.tmp 26) rfl _ _ rfl rfl (aa HST) ?_))
   go_meet
   case rel=>exact ⟨R4,(aa HX).1,(aa HX).2⟩
 case rest =>
  obtain ⟨R5,hQ5,hB5⟩:=hcut
  rename World=>wc
  clear HB3 HQ2 hnot
  have HX0:=ae (And.intro hQ5 hB5)
  clear hQ5 hB5
  go_wp2_with fail
  go_loopw [9,10,11] (fun tv sv iv wr=>∃ (i:Nat) (R':List Value),i≤cn∧iv = .int .i64 (i:Nat)∧sv = .string (q2.dX gone i).2.2∧QS (q2.dX gone i).1 xo len xc all R'∧BY w wr R'∧dI wr (w.heap.size+1+1) tv (q2.dX gone i).2.1 (fun _=>False)) (fun _ _ iv _=>cn - (intOf iv).toNat)
  case atStart=>exact ⟨0,R5,Nat.zero_le _,rfl,rfl,(aa HX0).1,(aa HX0).2,dI.nil _ _ _⟩
  case round =>
   obtain ⟨i,Rr,hi,rfl,rfl,hQ,hB,hO⟩:=hrel
   rename World=>wr
   clear HX0
   obtain ⟨s,hs⟩:∃ s,q2.dX gone i=s:=⟨_,rfl⟩
   rw [hs] at hQ hO ⊢
   have hw1:=AW (n:=i) (by omega)
   have HQr:=ae hQ
   have HBr:=ae hB
   have HOr:=ae hO
   have hln:s.2.1.length=i:=by rw [← hs];exact Q.Bm _ _ _
   clear hQ hB hO
   by_cases hlt:i<cn
   ·have hlt2:(i:Int)<(cn:Int):=by omega
    go_wp2_with (first|((with_reducible refine aA 31 ?_);refine kC rfl 120 (.tmp 3) rfl w.heap.size 0 rfl _ _ (af (aa HBr).b0) Tryz.underlying120 rfl (by rw [(aa HBr).n];exact Tryz.al) ?_))
    refine (pJ (aa HQr)).mono ?_
    rintro e w4 ⟨rfl,hf4⟩
    have HB4:=ae ((aa HBr).aE hf4 (fun _ h=>h.elim))
    have HO4:=ae ((aa HOr).cO hf4 (fun _ h=>h.elim))
    clear hf4
    by_cases hg:s.1.f=none
    ·rw [decide_eq_true hg]
     obtain ⟨r,hr⟩:∃ r,s.1.dw s.2.2 (decide (i=0)) gone=r:=⟨_,rfl⟩
     have hok:r.2.ok:=by rw [← hr];exact Q.xU _ _ _ _ (by rw [(aa HQr).1];exact hall)
     have hgf:=fun wx (hf:Fr (fun _=>False) w wx)=>oI ((aa HA).aE hf) (aa HQr) s.2.2 (decide (i=0)) gone
     rw [hr] at hgf
     have hnx:q2.dX gone (i+1)=(r.1,s.2.1++[r.2],r.2.name):=by rw [Q.dX,hs,hr]
     obtain ⟨q5,fn,fk,ft,fv,fu⟩:=r
     simp only [cJ.vs] at hgf hnx hok
     have HG:=ae hgf
     have HN:=ae (And.intro hnx hok)
     clear hgf hnx hok hr
     have e0:((i:Int) == 0)=decide (i=0):=by by_cases h0:i=0 <;> simp [h0]
     go_wp2_with (first|((with_reducible refine aA 37 ?_);refine wpList_load_mid rfl 120 (.tmp 3) rfl w.heap.size 0 rfl _ _ (af (aa HB4).b0) Tryz.underlying120 rfl (by rw [(aa HB4).n];exact Tryz.al) ?_))
     refine ((aa HG) _ (aa HB4).fr).mono ?_
     rintro e w5 ⟨R5,rfl,hQ5,hf5⟩
     have hB5:=(aa HB4).aE hf5 (fun _ h=>h.elim)
     have hO5:=(aa HO4).cO hf5 (fun _ h=>h.elim)
     have hk2:=uo w5 (.cells tm.toArray 120) (.cells Ax.toArray 59)
     have hlt5:=hB5.lt
     obtain ⟨w6,hst6,hb6,hf6⟩:=bQ (P:=Tryz.prog) (ty:=120) tm R5 hk2.1 (by rw [hQ5.len];rfl) (by rw [hQ5.len];exact Tryz.al) hQ5.one
     obtain ⟨w7,hst7,hb7,hf7⟩:=bQ (P:=Tryz.prog) (ty:=59) Ax [.string fn,.int .u8 (fk:Nat),.string ft,.float .f32 fv,.int .u8 (fu:Nat)] ((hf6.block _ (by rw [hk2.2.2];omega) (fun h=>by omega)).trans hk2.2.1) rfl Tryz.ey (by simp [Value.oneCell'])
     have hs7:=hf7.size
     have hs6:=hf6.size
     rw [hk2.2.2] at hs6
     have hb67:=(hf7.block w5.heap.size (by omega) (fun h=>by omega)).trans hb6
     have hf57:Fr (fun k=>k=w5.heap.size∨k=w5.heap.size+1) w5 w7:=(((Fr.refl _ w5).alloc _).alloc _).trans ((hf6.mono (T:=fun k=>k=w5.heap.size∨k=w5.heap.size+1) (fun _ _ h=>.inl h)).trans hf7 (fun k _ h=>.inr h)) (fun k _ h=>h)
     have hB7:=hB5.aE hf57 (fun k hk=>by omega)
     have hO7:=hO5.cO hf57 (fun k hk=>by omega)
     obtain ⟨w8,hst8,hB8,hf8⟩:=hB7.bp hQ5
     have hO8:=hO7.cO hf8 (fun k hk=>by omega)
     have hb8:=(hf8.block (w5.heap.size+1) (by omega) (fun h=>by omega)).trans hb7
     have hs8:=hf8.size
     obtain ⟨ao,cap,w9,hap,hO9,hf9⟩:=hO8.app ⟨fn,fk,ft,fv,fu⟩ (aa HN).2 (by omega) (fun _ h=>h.elim) (by omega)
     have hB9:=hB8.aE hf9 (fun k hk=>by have:=hO8.row.lt k hk;omega)
     have r8:w8.cell? ⟨w5.heap.size+1,0,none⟩=some (.string fn):=af hb8 0 _ rfl
     have HS6:=ae hst6
     have HS7:=ae hst7
     have HS8:=ae hst8
     have HR7:=ae (af hb67)
     have HR8:=ae (af (cs:=[.string fn,.int .u8 (fk:Nat),.string ft,.float .f32 fv,.int .u8 (fu:Nat)]) hb8)
     have HAP:=ae hap
     have hl7:=hQ5.len
     have HX9:=ae (And.intro hQ5 (And.intro hB9 hO9))
     clear hst6 hst7 hst8 hb6 hb7 hb67 hb8 hf57 hf6 hf7 hf8 hB5 hO5 hB7 hO7 hB8 hO8 hap hO9 hf9 hB9 hQ5 hf5 hk2 hs7 hs6 hs8
     go_wp2_with (first|((with_reducible refine aw ?_);refine ag rfl 120 (.tmp 12) (.tmp 43) rfl _ _ rfl rfl (aa HS6) ?_)|((with_reducible refine aw ?_);refine ag rfl 59 (.tmp 13) (.tmp 44) rfl _ _ rfl rfl (aa HS7) ?_)|((with_reducible refine aA 45 ?_);refine wpList_load_mid rfl 120 (.tmp 12) rfl w5.heap.size 0 rfl _ _ (aa HR7) Tryz.underlying120 rfl (by rw [hl7];exact Tryz.al) ?_)|((with_reducible refine aw ?_);refine ag rfl 120 (.tmp 3) (.tmp 45) rfl _ _ rfl rfl (aa HS8) ?_)|((with_reducible refine aA 49 ?_);refine wpList_load_mid rfl 59 (.tmp 13) rfl (w5.heap.size+1) 0 rfl _ _ (aa HR8) Tryz.underlying59 rfl Tryz.ey ?_)|((with_reducible refine aA 51 ?_);refine qA rfl (.tmp 48) (.tmp 50) 28 28 rfl _ _ _ rfl rfl (aa HAP) ?_))
     go_roundw
     case rel=>exact ⟨i+1,R5,by omega,by go_num,by rw [(aa HN).1],by rw [(aa HN).1];exact (aa HX9).1,(aa HX9).2.1,by rw [(aa HN).1,← hln];exact (aa HX9).2.2⟩
     case measure=>exact ze hlt
    ·rw [decide_eq_false hg]
     have hne:(q2.dX gone i).1.f≠none:=by rw [hs];exact hg
     obtain ⟨W1,hst,hb1,hfs⟩:=bQ (P:=Tryz.prog) (ty:=120) tm Rr (aa HB4).b1 (by rw [(aa HB4).n];rfl) (by rw [(aa HB4).n];exact Tryz.al) (aa HQr).one
     have HST:=ae hst
     have hld:=run_loadVar_mid (P:=Tryz.prog) W1 (w.heap.size+1) 0 120 Rr _ (af hb1) Tryz.underlying120 rfl (by rw [(aa HB4).n];exact Tryz.al)
     have hO1:=(aa HO4).cO hfs (fun k hk=>by omega)
     have hfr:=(aa HB4).fr.trans hfs (fun k hk e=>by omega)
     have HX1:=ae (And.intro hO1 hfr)
     clear hst hb1 hfs hO1 hfr
     go_wp2_with (first|((with_reducible refine aA 52 ?_);refine wpList_load_mid rfl 120 (.tmp 3) rfl w.heap.size 0 rfl _ _ (af (aa HB4).b0) Tryz.underlying120 rfl (by rw [(aa HB4).n];exact Tryz.al) ?_)|((with_reducible refine aw ?_);refine ag rfl 120 (.tmp 6) (.tmp 52) rfl _ _ rfl rfl (aa HST) ?_))
     refine bodyPost_ret (v:=.tuple #[.agg Rr.toArray,u9]) (by simp [results,Tryz.results102,asAddr,hld]) rfl ?_
     exact ⟨Rr,u9,i,rfl,hi,.inr hne,by rw [hs];exact aa HQr,by rw [hs];exact (aa HX1).1.base (by omega),(aa HX1).2⟩
   ·have hic:i=cn:=by omega
    have hge:¬ (i:Int)<(cn:Int):=by omega
    obtain ⟨W1,hst,hb1,hfs⟩:=bQ (P:=Tryz.prog) (ty:=120) tm Rr (aa HBr).b1 (by rw [(aa HBr).n];rfl) (by rw [(aa HBr).n];exact Tryz.al) (aa HQr).one
    have HST:=ae hst
    have hld:=run_loadVar_mid (P:=Tryz.prog) W1 (w.heap.size+1) 0 120 Rr _ (af hb1) Tryz.underlying120 rfl (by rw [(aa HBr).n];exact Tryz.al)
    have hO1:=(aa HOr).cO hfs (fun k hk=>by omega)
    have hfr:=(aa HBr).fr.trans hfs (fun k hk e=>by omega)
    have HX1:=ae (And.intro hO1 hfr)
    clear hst hb1 hfs hO1 hfr
    go_wp2_with (first|((with_reducible refine aA 52 ?_);refine wpList_load_mid rfl 120 (.tmp 3) rfl w.heap.size 0 rfl _ _ (af (aa HBr).b0) Tryz.underlying120 rfl (by rw [(aa HBr).n];exact Tryz.al) ?_)|((with_reducible refine aw ?_);refine ag rfl 120 (.tmp 6) (.tmp 52) rfl _ _ rfl rfl (aa HST) ?_))
    refine bodyPost_ret (v:=.tuple #[.agg Rr.toArray,u9]) (by simp [results,Tryz.results102,asAddr,hld]) rfl ?_
    exact ⟨Rr,u9,rfl,i,hi,.inl hic,by rw [hs];exact aa HQr,by rw [hs];exact (aa HX1).1.base (by omega),(aa HX1).2⟩
structure PT where
 nm:ByteArray
 k:Nat
 u:Nat
 b:List Nat
 wy:Nat
def PT.by (p:PT):List Nat:=if p.k=6 then be 4 p.b.length++p.b else if p.k=5 then be 4 p.u else be p.k p.u
def PT.go (s:Wq) (p:PT):Wq:=((s.named p.nm).ai p.wy).cz p.by
def tg (s:Wq) (l:List PT):Wq:=l.foldl PT.go s
def qs (s t:Wq):Prop:=s.l=t.l∧s.f=t.f
theorem qs.refl (s:Wq):qs s s:=⟨rfl,rfl⟩
theorem qs.symm {s t:Wq} (h:qs s t):qs t s:=⟨h.1.symm,h.2.symm⟩
theorem qs.trans {s t u:Wq} (h:qs s t) (k:qs t u):qs s u:=⟨h.1.trans k.1,h.2.trans k.2⟩
theorem Az (s:Wq) (a b:List PT):tg s (a++b)=tg (tg s a) b:=by unfold tg;rw [List.foldl_append]
theorem go_eqf {s t:Wq} (h:qs s t) (p:PT):qs (p.go s) (p.go t):=by
 obtain ⟨sn,sl,sf⟩:=s
 obtain ⟨tn,tl,tf⟩:=t
 obtain ⟨h1,h2⟩:=h
 simp only at h1 h2
 subst h1 h2
 exact qs.refl _
theorem wH:∀ (L:List PT) {s t:Wq},qs s t→qs (tg s L) (tg t L)
 | [],_,_,h=>h
 | p::r,_,_,h=>wH r (go_eqf h p)
def tR (out:List Nat):List PT→List Nat × Option (ByteArray × Nat × Nat)
 | []=>(out,none)
 | p::r=>if p.wy≠0 then ([],some (p.nm,out.length,p.wy)) else tR (out++p.by) r
end Go.Proofs.YtdcopmkgmbiikaaGreatDoor
