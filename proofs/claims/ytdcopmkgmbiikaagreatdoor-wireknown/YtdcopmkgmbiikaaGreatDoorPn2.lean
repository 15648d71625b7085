import Derived.Test.YtdcopmkgmbiikaaGreatDoorPn1
import Derived.Test.YtdcopmkgmbiikaaGreatDoorJBase
import Derived.Deep.MidRow
import Derived.Maps.AppendAt
import Derived.Test.YtdcopmkgmbiikaaGreatDoorJFai
import Derived.Test.YtdcopmkgmbiikaaGreatDoorJTld
import Derived.Test.YtdcopmkgmbiikaaGreatDoorJAwl
set_option maxRecDepth 1000000
set_option maxHeartbeats 2000000
set_option linter.unusedSimpArgs false
namespace Go.Proofs.YtdcopmkgmbiikaaGreatDoor
open Go.RowKit
theorem vr (w:World):Calls Tryz.prog 176 #[] w fun e w'=>e = .returned (.int .i64 21)∧Fr (fun _=>False) w w':=by
 go_enter Tryz.func176,Tryz.ntmps176
 go_wp2_with fail
 go_ret
 exact⟨rfl,Fr.refl _ _⟩
theorem fh.mono {w w1:World} {K:Nat→Prop} (h:fh w1 K) (hs:w.heap.size≤w1.heap.size):fh w K:=fun k hk=>(h k hk).imp (fun h=>by omega) id
def RR {α:Type} (en:World→Value→α→Prop) (w w':World) (E:Nat→Addr) (fv:Value) (r:α→Nat):Prop:=∃ K0,iR en w' K0 fv E r∧fh w K0
theorem RR.fr {α:Type} {en:World→Value→α→Prop} {w w1 w':World} {E:Nat→Addr} {fv:Value} {r:α→Nat} (h:RR en w w1 E fv r) (hf:Fr (fun _=>False) w1 w'):RR en w w' E fv r:=by
 obtain⟨K0,h1,h2⟩:=h
 exact⟨K0,h1.mono (fun k hk=>hf.block k (h1.lt k hk) (fun h=>h)) (fun _ h=>h) (fun k hk=>Nat.lt_of_lt_of_le (h1.lt k hk) hf.size),h2⟩
theorem lA {α:Type} {en:World→Value→α→Prop} {w w1:World} {cb b g i:Nat} {F:Nat→Prop} {c:CS} {E:Nat→Addr} {r1:α→Nat} {f1:Value} (T:TypeId) (h:Cd w cb b F c E) (hL:Loc w cb F g i) (hf:Fr (fun _=>False) w w1) (h1:RR en w w1 E f1 r1) :
  ij en (w1.alloc (.cells #[f1] T)) F g (.slice (some ⟨w1.heap.size,0,none⟩) 1 1) E [r1]:=by
 obtain⟨K1,hF1,hK1⟩:=h1
 exact kO T h hL hF1 hf hK1
theorem tU {α:Type} {en:World→Value→α→Prop} {w w1:World} {cb b g i:Nat} {F:Nat→Prop} {c:CS} {E:Nat→Addr} {r1 r2:α→Nat} {f1 f2:Value} (T:TypeId) (h:Cd w cb b F c E) (hL:Loc w cb F g i) (hf:Fr (fun _=>False) w w1) (h1:RR en w w1 E f1 r1) (h2:RR en w w1 E f2 r2) :
  ij en (w1.alloc (.cells #[f1,f2] T)) F g (.slice (some ⟨w1.heap.size,0,none⟩) 2 2) E [r1,r2]:=by
 have hb:=al w1 (.cells #[f1,f2] T)
 obtain⟨K1,hF1,hK1⟩:=h1
 obtain⟨K2,hF2,hK2⟩:=h2
 have hlt:∀ k,(K1 k∨K2 k∨k=w1.heap.size)→k<(w1.alloc (.cells #[f1,f2] T)).heap.size:=fun k hk=>by
  rcases hk with hk|hk|rfl
  ·exact Nat.lt_of_lt_of_le (hF1.lt k hk) hb.size
  ·exact Nat.lt_of_lt_of_le (hF2.lt k hk) hb.size
  ·simp
 refine⟨⟨fun k=>K1 k∨K2 k∨k=w1.heap.size,⟨hlt,⟨_,_,rfl⟩,fun _ _ _ e=>.inr ⟨w1.heap.size,0,by cases e;rfl⟩,fun xo n c' e j r' hr=>?_⟩,fun k hk=>?_⟩,by simp⟩
 ·have ex:xo=some ⟨w1.heap.size,0,none⟩:=by cases e;rfl
  rcases j with _|_|j
  ·obtain rfl:r1=r':=by simpa using hr
   exact⟨w1.heap.size,0,f1,ex,.inr (.inr rfl),by simp,hF1.mono (fun k hk=>hb.block k (hF1.lt k hk) (fun h=>h)) (fun _ h=>.inl h) hlt⟩
  ·obtain rfl:r2=r':=by simpa using hr
   exact⟨w1.heap.size,0,f2,ex,.inr (.inr rfl),by simp,hF2.mono (fun k hk=>hb.block k (hF2.lt k hk) (fun h=>h)) (fun _ h=>.inr (.inl h)) hlt⟩
  ·simp at hr
 ·rcases hk with hk|hk|rfl
  ·exact eN h hL hK1 k hk
  ·exact eN h hL hK2 k hk
  ·have h1:=hf.size
   have h2:=hL.lt
   exact⟨fun hx=>by have:=h.lt _ hx;omega,by omega⟩
theorem aq {w V:World} (hf:Fr (fun _=>False) w V) {p:Addr} {v:Value} (h:w.cell? p=some v):V.cell? p=some v:=(hf.cell (p:=p) (ab h) (fun h=>h)).trans h
structure PT where
 nm:ByteArray
 k:Nat
 u:Nat
 b:List Nat
 wy:Nat
def PT.by (p:PT):List Nat:=if p.k=6 then be 4 p.b.length++p.b else if p.k=5 then be 4 p.u else be p.k p.u
def PT.go (s:Wq) (p:PT):Wq:=((s.named p.nm).ah p.wy).bP p.by
def pK (s:Wq) (l:List PT):Wq:=l.foldl PT.go s
def o7 (s t:Wq):Prop:=s.l=t.l∧s.f=t.f
theorem o7.refl (s:Wq):o7 s s:=⟨rfl,rfl⟩
theorem o7.symm {s t:Wq} (h:o7 s t):o7 t s:=⟨h.1.symm,h.2.symm⟩
theorem o7.trans {s t u:Wq} (h:o7 s t) (k:o7 t u):o7 s u:=⟨h.1.trans k.1,h.2.trans k.2⟩
theorem xU (s:Wq) (a b:List PT):pK s (a++b)=pK (pK s a) b:=by unfold pK;rw[List.foldl_append]
theorem go_eqf {s t:Wq} (h:o7 s t) (p:PT):o7 (p.go s) (p.go t):=by
 obtain⟨sn,sl,sf⟩:=s
 obtain⟨tn,tl,tf⟩:=t
 obtain⟨h1,h2⟩:=h
 simp only at h1 h2
 subst h1 h2
 exact o7.refl _
theorem uf:∀ (L:List PT) {s t:Wq},o7 s t→o7 (pK s L) (pK t L)
 | [],_,_,h=>h
 | p::r,_,_,h=>uf r (go_eqf h p)
def eH (out:List Nat):List PT→List Nat × Option (ByteArray × Nat × Nat)
 | []=>(out,none)
 | p::r=>if p.wy≠0 then ([],some (p.nm,out.length,p.wy)) else eH (out++p.by) r
def Bo (last:Nat) (f:cj):List PT:=⟨ay,1,f.kind,[],fb [bC 1 last 5,gh f.beside] f.kind⟩::(if f.kind=1 then [⟨dW,6,0,bytesOf f.text,cu 0 64 f.text.size⟩] else if f.kind=2 then [⟨cz,5,f.value,[],if bM f.value then 0 else 4⟩,⟨dM,1,f.unit,[],bC 1 21 4 f.unit⟩] else [])
def A9 (last:Nat) (a:ByteArray) (f:cj):List PT:=⟨bE,6,0,bytesOf f.name,fb [fun v=>cu 1 64 v.size,kf a] f.name⟩::Bo last f
def p5 (last:Nat):ByteArray→List cj→List PT
 | _,[]=>[]
 | a,f::r=>A9 last a f++p5 last f.name r
theorem iM {w:World} {b t:Nat} {cs:Array Value} (h:w.heap[b]?=some (.cells cs t)) (o:Nat) (v:Value):(w.setCell ⟨b,o,none⟩ v).heap[b]?=some (.cells (cs.setIfInBounds o v) t):=by
 simp[World.setCell,Array.getElem?_modify,h]
theorem jB (g t:Nat):∀ (vs olds pre:List Value) (o:Nat) (w:World),w.heap[g]?=some (.cells (pre++olds).toArray t)→olds.length=vs.length→pre.length=o→(w.setCells g o vs).heap[g]?=some (.cells (pre++vs).toArray t)
 | [],olds,pre,o,w,h,hl,_=>by
  obtain rfl:=List.eq_nil_of_length_eq_zero hl
  exact h
 | v::vs,[],pre,o,w,h,hl,_=>by cases hl
 | v::vs,a::olds,pre,o,w,h,hl,ho=>by
  rw[World.setCells]
  have:=jB g t vs olds (pre++[v]) (o+1) (w.setCell ⟨g,o,none⟩ v) (by rw[iM h];subst ho;simp) (by simpa using hl) (by simp[ho])
  simpa using this
theorem fu (g:Nat):∀ (vs:List Value) (o:Nat) (w:World),Fr (fun k=>k=g) w (w.setCells g o vs)
 | [],o,w=>Fr.refl _ _
 | v::vs,o,w=>by
  rw[World.setCells]
  exact((Fr.refl (fun k=>k=g) w).setCell (p:=⟨g,o,none⟩) (.inl rfl) v).trans (fu g vs (o+1) _) (fun _ _ h=>h)
theorem bz {P:Program} {W:World} {g t ty:Nat} (olds news:List Value) (hb:W.heap[g]?=some (.cells olds.toArray t)) (hl:olds.length=news.length) (hi:(P.info? ty).map (·.size)=some news.length) (h1:∀ v∈news,v.oneCell'=true) :
  ∃ W8,(Instr.storeAt ty (.pointer (some ⟨g,0,none⟩)) (.agg news.toArray)).run P W = .ok () W8∧W8.heap[g]?=some (.cells news.toArray t)∧Fr (fun k=>k=g) W W8:=by
 refine⟨W.setCells g 0 news,run_storeAt_mid W g 0 ty news.toArray (fun j hj=>?_) (by simpa using hi) (all_oneCell_toArray h1),?_,fu g news 0 W⟩
 ·have hj:j<news.length:=by simpa using hj
  have hj2:j<olds.length:=by omega
  refine⟨?_,by simp[World.frozen?,hb]⟩
  simp[World.cell?,hb,hj2]
 ·have:=jB g t news olds [] 0 W (by simpa using hb) hl rfl
  simpa using this
theorem aA {P:Program} {w w':World} {ops:Array Oper} {rest:List Oper} {op:Oper} {a:Act} {Q:Exit→Act→World→Prop} (hgd:op.guard=none) (ty:TypeId) (x y:Operand) (ho:op.op = .store ty x y)
  (p v:Value) (hx:a.eval x=p) (hy:a.eval y=v) (hr:(Instr.storeAt ty p v).run P w = .ok () w')
  (h:wpList P ops Q rest (a.put op.dst undef) w'):wpList P ops Q (op::rest) a w:=
 wpList_plain hgd fun _ hK=>by
  unfold Oper.wp execOp
  simp only[ho,hx,hy,Sem.run_bind,hr,Result.andThen_ok,Sem.run_pure]
  exact hK _ _ h
theorem af {W:World} {b:Nat} {cs:List Value} {t:TypeId} (h:W.heap[b]?=some (.cells cs.toArray t)):W.rangeAt b 0 cs:=by
 intro j v hv
 simp only[World.cell?,h]
 simpa using hv
def CS.cP (c:CS) (last:Nat) (f:cj):CS × cj:=
 if (c.fe ay [bC 1 last 5,gh f.beside] f.kind).2=1 then
  (((c.fe ay [bC 1 last 5,gh f.beside] f.kind).1.dG dW 64 [fun v=>cu 0 64 v.size] f.text).1,{ f with kind:=1,text:=((c.fe ay [bC 1 last 5,gh f.beside] f.kind).1.dG dW 64 [fun v=>cu 0 64 v.size] f.text).2 })
 else if (c.fe ay [bC 1 last 5,gh f.beside] f.kind).2=2 then
  ((((c.fe ay [bC 1 last 5,gh f.beside] f.kind).1.gq cz [] f.value).1.fe dM [bC 1 21 4] f.unit).1,{ f with kind:=2,value:=((c.fe ay [bC 1 last 5,gh f.beside] f.kind).1.gq cz [] f.value).2,unit:=(((c.fe ay [bC 1 last 5,gh f.beside] f.kind).1.gq cz [] f.value).1.fe dM [bC 1 21 4] f.unit).2 })
 else ((c.fe ay [bC 1 last 5,gh f.beside] f.kind).1,{ f with kind:=(c.fe ay [bC 1 last 5,gh f.beside] f.kind).2 })
structure yT (w:World) (g:Nat) (f:cj):Prop where
 c0:w.cell? ⟨g,0,none⟩=some (.string f.name)
 c1:w.cell? ⟨g,1,none⟩=some (.int .u8 (f.kind:Nat))
 c2:w.cell? ⟨g,2,none⟩=some (.string f.text)
 c3:w.cell? ⟨g,3,none⟩=some (.float .f32 f.value)
 c4:w.cell? ⟨g,4,none⟩=some (.int .u8 (f.unit:Nat))
theorem vp (c:CS) (f:cj) (last cb b g:Nat) (F:Nat→Prop) (E:Nat→Addr) (w:World) (h:Cd w cb b F c E) (hp:yT w g f) (hL:∀ i,Loc w cb F g i) (hf:f.ok) (hroom:c.room 3) :
  Calls Tryz.prog 155 #[.pointer (some ⟨cb,0,none⟩),.pointer (some ⟨g,0,none⟩),.int .u8 (last:Nat)] w fun e w'=>e = .returned (.tuple #[])∧∃ F',Cd w' cb b F' (c.cP last f).1 E∧yT w' g (c.cP last f).2∧(c.cP last f).2.ok∧ar w w' F F' (aC g 0 5):=by
 obtain⟨p0,p1,p2,p3,p4⟩:=hp
 have k5:=h.g7.k5
 have hsf:=cO
 have HK:=ae (fun (V:World) (hv:Fr (fun _=>False) w V)=>And.intro (aq hv p0) (And.intro (aq hv p1) (And.intro (aq hv p2) (And.intro (aq hv p3) (And.intro (aq hv p4) (aq hv k5))))))
 have H:=ae (And.intro h hL)
 have HN:Hid (∀ (w3:World) (f1 f2:Value) (T:TypeId),Fr (fun _=>False) w w3→RR dP w w3 E f1 (bC 1 last 5)→RR dP w w3 E f2 (gh f.beside)→Calls Tryz.prog 127 #[.pointer (some ⟨cb,0,none⟩),.string ay,.pointer (some ⟨g,1,none⟩),.slice (some ⟨w3.heap.size,0,none⟩) 2 2] (w3.alloc (.cells #[f1,f2] T)) fun e w'=>e = .returned (.tuple #[])∧∃ F',Cd w' cb b F' (c.fe ay [bC 1 last 5,gh f.beside] f.kind).1 E∧w'.cell? ⟨g,1,none⟩=some (.int .u8 ((c.fe ay [bC 1 last 5,gh f.beside] f.kind).2:Nat))∧ar w w' F F' (fun k j=>k=g∧j=1)):=fun w3 f1 f2 T hf3 h1 h2=>by
  have hf2:=hf3.trans (al w3 (.cells #[f1,f2] T)) (fun _ _ h=>h)
  refine(fI c ay [bC 1 last 5,gh f.beside] f.kind cb b g 1 F E _ _ (h.aR hf2) (aq hf2 p1) ((hL 1).aR hf2) hf.kind (tU T h (hL 1) hf3 h1 h2) (by simp only[CS.room] at *;omega)).mono ?_
  rintro e w' ⟨rfl,F',hC,hc,hs⟩
  exact⟨rfl,F',hC,hc,(ar.bh hf2 F _).trans hs (fun _ _ _ h=>h)⟩
 have HR:=ae hroom
 have HF:=ae hf
 have HKU:=ae (CS.rZ c ay [bC 1 last 5,gh f.beside] f.kind hf.kind)
 have HRM:=ae (CS.ch (n:=2) hroom ay [bC 1 last 5,gh f.beside] f.kind)
 obtain⟨c1,hc1⟩:∃ c1,(c.fe ay [bC 1 last 5,gh f.beside] f.kind).1=c1:=⟨_,rfl⟩
 obtain⟨kd,hkd⟩:∃ kd,(c.fe ay [bC 1 last 5,gh f.beside] f.kind).2=kd:=⟨_,rfl⟩
 have HP:Hid (c.cP last f=if kd=1 then ((c1.dG dW 64 [fun v=>cu 0 64 v.size] f.text).1,{ f with kind:=1,text:=(c1.dG dW 64 [fun v=>cu 0 64 v.size] f.text).2 }) else if kd=2 then (((c1.gq cz [] f.value).1.fe dM [bC 1 21 4] f.unit).1,{ f with kind:=2,value:=(c1.gq cz [] f.value).2,unit:=((c1.gq cz [] f.value).1.fe dM [bC 1 21 4] f.unit).2 }) else (c1,{ f with kind:=kd })):=by
  rw[← hc1,← hkd]
  rfl
 rw[hc1,hkd] at HN
 rw[hkd] at HKU
 rw[hc1] at HRM
 generalize c.cP last f=r at *
 have hlg:=(hL 0).lt
 have hgF:=(hL 0).nF
 clear h hL hroom hc1 hkd hf k5 p0 p1 p2 p3 p4
 go_enter Tryz.func155,Tryz.ntmps155
 go_wp2_with fail
 refine bj (n:=13) (m:=13) (S:=fun V=>Fr (fun _=>False) w V) (by kernel_rfl) rfl rfl rfl (by kernel_rfl) (by kernel_rfl) ((Fr.refl _ _).drew) (fun hHeld=>?_)
 refine cK (i:=0) (v:=?_) rfl (Or.inl ⟨by rfl,?_⟩) hHeld ?_
 rotate_left
 ·intro V hSw;(try dsimp only at hSw);obtain⟨q0,q1,q2,q3,q4,q5⟩:=(aa HK) V hSw;go_simp;(try with_reducible rfl)
 (try simp only[Act.put,bd])
 refine cK (i:=1) (v:=?_) rfl (Or.inl ⟨by rfl,?_⟩) hHeld ?_
 rotate_left
 ·intro V hSw;(try dsimp only at hSw);obtain⟨q0,q1,q2,q3,q4,q5⟩:=(aa HK) V hSw;go_simp;(try with_reducible rfl)
 (try simp only[Act.put,bd])
 refine cK (i:=2) (v:=?_) rfl (Or.inl ⟨by rfl,?_⟩) hHeld ?_
 rotate_left
 ·intro V hSw;(try dsimp only at hSw);obtain⟨q0,q1,q2,q3,q4,q5⟩:=(aa HK) V hSw;go_simp;(try with_reducible rfl)
 (try simp only[Act.put,bd])
 refine cK (i:=3) (v:=?_) rfl (Or.inl ⟨by rfl,?_⟩) hHeld ?_
 rotate_left
 ·intro V hSw;(try dsimp only at hSw);obtain⟨q0,q1,q2,q3,q4,q5⟩:=(aa HK) V hSw;go_simp;(try with_reducible rfl)
 (try simp only[Act.put,bd])
 refine cK (i:=4) (v:=?_) rfl (Or.inl ⟨by rfl,?_⟩) hHeld ?_
 rotate_left
 ·intro V hSw;(try dsimp only at hSw);obtain⟨q0,q1,q2,q3,q4,q5⟩:=(aa HK) V hSw;go_simp;(try with_reducible rfl)
 (try simp only[Act.put,bd])
 refine cK (i:=5) (v:=?_) rfl (Or.inl ⟨by rfl,?_⟩) hHeld ?_
 rotate_left
 ·intro V hSw;(try dsimp only at hSw);obtain⟨q0,q1,q2,q3,q4,q5⟩:=(aa HK) V hSw;go_simp;(try with_reducible rfl)
 (try simp only[Act.put,bd])
 refine cK (i:=7) (v:=?_) rfl (Or.inl ⟨by rfl,?_⟩) hHeld ?_
 rotate_left
 ·intro V hSw;(try dsimp only at hSw);obtain⟨q0,q1,q2,q3,q4,q5⟩:=(aa HK) V hSw;go_simp;(try with_reducible rfl)
 (try simp only[Act.put,bd])
 refine cK (i:=8) (v:=?_) rfl (Or.inl ⟨by rfl,?_⟩) hHeld ?_
 rotate_left
 ·intro V hSw;(try dsimp only at hSw);obtain⟨q0,q1,q2,q3,q4,q5⟩:=(aa HK) V hSw;go_simp;(try with_reducible rfl)
 (try simp only[Act.put,bd])
 refine cK (i:=9) (v:=?_) rfl (Or.inl ⟨by rfl,?_⟩) hHeld ?_
 rotate_left
 ·intro V hSw;(try dsimp only at hSw);obtain⟨q0,q1,q2,q3,q4,q5⟩:=(aa HK) V hSw;go_simp;(try with_reducible rfl)
 (try simp only[Act.put,bd])
 refine wpAnyH_ready (rs:=[6]) (by kernel_rfl) (by simp) (AllReadyH.cons rfl (fun K hK=>?_) AllReadyH.nil)
 go_simp
 refine(dA 1 last 5 E _ (by decide)).mono ?_
 rintro e w1 ⟨fv1,rfl,K1,hF1,hf1,hK1⟩
 have H1:=ae (And.intro (show RR dP w w1 E fv1 (bC 1 last 5) from⟨K1,hF1,hK1.mono (Nat.le_refl _)⟩) ((Fr.refl _ _).drew.trans hf1 (fun _ _ h=>h)))
 obtain⟨Fc1,caps1,rfl,_⟩:=hF1.ex
 clear hF1 hf1 hK1
 go_simp
 refine hK.out _ _ ((aa H1).2) (fun hHeld=>?_)
 clear hK K
 (try simp only[Act.put,bd])
 refine wpAnyH_ready (rs:=[10]) (by kernel_rfl) (by simp) (AllReadyH.cons rfl (fun K hK=>?_) AllReadyH.nil)
 go_simp
 refine(kv f _ (aa HF)).mono ?_
 rintro e w2 ⟨rfl,hf2⟩
 have H2:=ae (And.intro ((aa H1).1.fr hf2) ((aa H1).2.trans hf2 (fun _ _ h=>h)))
 clear hf2 H1
 go_simp
 refine hK.out _ _ ((aa H2).2) (fun hHeld=>?_)
 clear hK K
 (try simp only[Act.put,bd])
 refine wpAnyH_ready (rs:=[11]) (by kernel_rfl) (by simp) (AllReadyH.cons rfl (fun K hK=>?_) AllReadyH.nil)
 go_simp
 refine(lW f.beside E _ ((aa H).1.g7.fr (aa H2).2 (fun _ h=>h.elim))).mono ?_
 rintro e w3 ⟨fv3,rfl,K3,hF3,hf3,hK3⟩
 have H3:=ae (And.intro ((aa H2).1.fr hf3) (And.intro (show RR dP w w3 E fv3 (gh f.beside) from⟨K3,hF3,hK3.mono (aa H2).2.size⟩) ((aa H2).2.trans hf3 (fun _ _ h=>h))))
 obtain⟨Fc3,caps3,rfl,_⟩:=hF3.ex
 clear hF3 hf3 hK3 H2
 go_simp
 refine hK.out _ _ ((aa H3).2.2) (fun hHeld=>?_)
 clear hK K
 (try simp only[Act.put,bd])
 refine wpAnyH_ready (rs:=[12]) (by kernel_rfl) (by simp) (AllReadyH.cons rfl (fun K hK=>?_) AllReadyH.nil)
 go_simp
 refine hK.out _ _ ((aa H3).2.2.alloc _) (fun hHeld=>?_)
 clear hK K
 (try simp only[Act.put,bd])
 refine wpAnyH_done (by kernel_rfl) ?_ _
 simp only[fB]
 go_simp
 refine((aa HN) w3 _ _ _ (aa H3).2.2 (aa H3).1 (aa H3).2.1).mono ?_
 rintro e w4 ⟨rfl,F4,hC4,hk4,hs4⟩
 obtain⟨p0,p1,p2,p3,p4,k5⟩:=(aa HK) w (Fr.refl _ _)
 have r0:w4.cell? ⟨g,0,none⟩=some (.string f.name):=(hs4.oth g 0 hlg hgF (fun h=>by omega)).trans p0
 have r2:w4.cell? ⟨g,2,none⟩=some (.string f.text):=(hs4.oth g 2 hlg hgF (fun h=>by omega)).trans p2
 have r3:w4.cell? ⟨g,3,none⟩=some (.float .f32 f.value):=(hs4.oth g 3 hlg hgF (fun h=>by omega)).trans p3
 have r4:w4.cell? ⟨g,4,none⟩=some (.int .u8 (f.unit:Nat)):=(hs4.oth g 4 hlg hgF (fun h=>by omega)).trans p4
 have hL4:=fun i=>((aa H).2 i).aP hs4
 have hku:=aa HKU
 have H4:=ae (And.intro hC4 (And.intro hk4 (And.intro hs4 (And.intro r0 (And.intro r2 (And.intro r3 (And.intro r4 hL4)))))))
 clear hC4 hs4 hL4 r0 r2 r3 r4 p0 p1 p2 p3 p4 k5 H3 HN HKU hsf
 by_cases k1:kd=1
 ·subst k1
  have hr:=aa HP
  rw[if_pos rfl] at hr
  have HP1:=ae hr
  clear hr HP
  obtain⟨hC4,_,hs4,r0,r2,r3,r4,hL4⟩:=aa H4
  have HT:=ae (pg c1 dW 0 64 [] f.text cb b g 2 F4 E (.slice none 0 0) w4 hC4 r2 (hL4 2) (aa HF).text (by decide) (ij.nil _ w4 F4 g E) (by decide) (by have:=aa HRM;simp only[CS.room] at *;omega))
  clear hC4 hs4 r0 r2 r3 r4 hL4
  go_wp2_with fail
  refine(aa HT).mono ?_
  rintro e w5 ⟨rfl,F5,hC5,hc5,hs5⟩
  obtain⟨hC4,hk4',hs4,r0,r2,r3,r4,hL4⟩:=aa H4
  have hlg4:=(hL4 0).lt
  have hgF4:=(hL4 0).nF
  have hr:=aa HP1
  have HE:Hid (Cd w5 cb b F5 r.1 E∧yT w5 g r.2∧r.2.ok∧ar w w5 F F5 (aC g 0 5)):=by
   rw[hr]
   exact⟨hC5,⟨(hs5.oth g 0 hlg4 hgF4 (fun h=>by omega)).trans r0,(hs5.oth g 1 hlg4 hgF4 (fun h=>by omega)).trans hk4',hc5,(hs5.oth g 3 hlg4 hgF4 (fun h=>by omega)).trans r3,(hs5.oth g 4 hlg4 hgF4 (fun h=>by omega)).trans r4⟩,⟨(aa HF).name,(by decide:(1:Nat)<256),CS.uv hC4 _ _ _ _ (aa HF).text,(aa HF).value,(aa HF).unit⟩,(hs4.mono (fun k j _ h=>⟨h.1,by omega,by omega⟩)).trans hs5 (fun k j _ h=>⟨h.1,by omega,by omega⟩)⟩
  clear hC4 hk4' hs4 r0 r2 r3 r4 hL4 hC5 hc5 hs5 hr H4
  go_wp2_with fail
  go_end0
  exact⟨rfl,F5,(aa HE).1,(aa HE).2.1,(aa HE).2.2.1,(aa HE).2.2.2⟩
 ·by_cases k2:kd=2
  ·subst k2
   have hr:=aa HP
   rw[if_neg (by decide),if_pos rfl] at hr
   have HP1:=ae hr
   clear hr HP
   obtain⟨hC4,_,hs4,r0,r2,r3,r4,hL4⟩:=aa H4
   have HT:=ae (tg c1 cz [] f.value cb b g 3 F4 E (.slice none 0 0) w4 hC4 r3 (hL4 3) (aa HF).value (ij.nil _ w4 F4 g E) (by have:=aa HRM;simp only[CS.room] at *;omega))
   clear hC4 hs4 r0 r2 r3 r4 hL4 k1
   go_wp2_with fail
   refine(aa HT).mono ?_
   rintro e w5 ⟨rfl,F5,hC5,hc5,hs5⟩
   obtain⟨hC4,hk4',hs4,r0,r2,r3,r4,hL4⟩:=aa H4
   have hlg4:=(hL4 0).lt
   have hgF4:=(hL4 0).nF
   have hL5:=fun i=>(hL4 i).aP hs5
   have t0:w5.cell? ⟨g,0,none⟩=some (.string f.name):=(hs5.oth g 0 hlg4 hgF4 (fun h=>by omega)).trans r0
   have t1:w5.cell? ⟨g,1,none⟩=some (.int .u8 2):=(hs5.oth g 1 hlg4 hgF4 (fun h=>by omega)).trans hk4'
   have t2:w5.cell? ⟨g,2,none⟩=some (.string f.text):=(hs5.oth g 2 hlg4 hgF4 (fun h=>by omega)).trans r2
   have t4:w5.cell? ⟨g,4,none⟩=some (.int .u8 (f.unit:Nat)):=(hs5.oth g 4 hlg4 hgF4 (fun h=>by omega)).trans r4
   have k4:=hC5.g7.k4
   have HK5:=ae (fun (V:World) (hv:Fr (fun _=>False) w5 V)=>aq hv k4)
   have hrm:=CS.nC (n:=1) (aa HRM) cz [] f.value
   have HN5:Hid (∀ (w7:World) (f1:Value) (T:TypeId),Fr (fun _=>False) w5 w7→RR dP w5 w7 E f1 (bC 1 21 4)→Calls Tryz.prog 127 #[.pointer (some ⟨cb,0,none⟩),.string dM,.pointer (some ⟨g,4,none⟩),.slice (some ⟨w7.heap.size,0,none⟩) 1 1] (w7.alloc (.cells #[f1] T)) fun e w'=>e = .returned (.tuple #[])∧∃ F',Cd w' cb b F' ((c1.gq cz [] f.value).1.fe dM [bC 1 21 4] f.unit).1 E∧w'.cell? ⟨g,4,none⟩=some (.int .u8 (((c1.gq cz [] f.value).1.fe dM [bC 1 21 4] f.unit).2:Nat))∧ar w5 w' F5 F' (fun k j=>k=g∧j=4)):=fun w7 f1 T hf7 h1=>by
    have hf2:=hf7.trans (al w7 (.cells #[f1] T)) (fun _ _ h=>h)
    refine(fI _ dM [bC 1 21 4] f.unit cb b g 4 F5 E _ _ (hC5.aR hf2) (aq hf2 t4) ((hL5 4).aR hf2) (aa HF).unit (lA T hC5 (hL5 4) hf7 h1) hrm).mono ?_
    rintro e w' ⟨rfl,F',hC,hc,hs⟩
    exact⟨rfl,F',hC,hc,(ar.bh hf2 F5 _).trans hs (fun _ _ _ h=>h)⟩
   have H5:=ae (And.intro t0 (And.intro t1 (And.intro t2 (And.intro hc5 (And.intro hL5 ((hs4.mono (P':=aC g 0 5) (fun k j _ h=>⟨h.1,by omega,by omega⟩)).trans hs5 (fun k j _ h=>⟨h.1,by omega,by omega⟩)))))))
   have hsf:=cO
   clear hC4 hk4' hs4 r0 r2 r3 r4 hL4 hC5 hc5 hs5 H4 t0 t1 t2 t4 k4 hL5 hlg4 hgF4 hrm hk4
   go_wp2_with fail
   refine bj (n:=9) (m:=9) (S:=fun V=>Fr (fun _=>False) w5 V) (by kernel_rfl) rfl rfl rfl (by kernel_rfl) (by kernel_rfl) ((Fr.refl _ _).drew) (fun hHeld=>?_)
   refine cK (i:=0) (v:=?_) rfl (Or.inl ⟨by rfl,?_⟩) hHeld ?_
   rotate_left
   ·intro V hSw;(try dsimp only at hSw);have q4:=(aa HK5) V hSw;go_simp;(try with_reducible rfl)
   (try simp only[Act.put,bd])
   refine cK (i:=1) (v:=?_) rfl (Or.inl ⟨by rfl,?_⟩) hHeld ?_
   rotate_left
   ·intro V hSw;(try dsimp only at hSw);have q4:=(aa HK5) V hSw;go_simp;(try with_reducible rfl)
   (try simp only[Act.put,bd])
   refine cK (i:=2) (v:=?_) rfl (Or.inl ⟨by rfl,?_⟩) hHeld ?_
   rotate_left
   ·intro V hSw;(try dsimp only at hSw);have q4:=(aa HK5) V hSw;go_simp;(try with_reducible rfl)
   (try simp only[Act.put,bd])
   refine cK (i:=3) (v:=?_) rfl (Or.inl ⟨by rfl,?_⟩) hHeld ?_
   rotate_left
   ·intro V hSw;(try dsimp only at hSw);have q4:=(aa HK5) V hSw;go_simp;(try with_reducible rfl)
   (try simp only[Act.put,bd])
   refine cK (i:=6) (v:=?_) rfl (Or.inl ⟨by rfl,?_⟩) hHeld ?_
   rotate_left
   ·intro V hSw;(try dsimp only at hSw);have q4:=(aa HK5) V hSw;go_simp;(try with_reducible rfl)
   (try simp only[Act.put,bd])
   refine wpAnyH_ready (rs:=[4]) (by kernel_rfl) (by simp) (AllReadyH.cons rfl (fun K hK=>?_) AllReadyH.nil)
   go_simp
   refine(vr _).mono ?_
   rintro e w6 ⟨rfl,hf6⟩
   have H6:=ae ((Fr.refl _ _).drew.trans hf6 (fun _ _ h=>h))
   clear hf6
   go_simp
   refine hK.out _ _ (aa H6) (fun hHeld=>?_)
   clear hK K
   (try simp only[Act.put,bd])
   refine cK (i:=5) (v:=?_) rfl (Or.inl ⟨by rfl,?_⟩) hHeld ?_
   rotate_left
   ·intro V hSw;(try dsimp only at hSw);have q4:=(aa HK5) V hSw;go_simp;(try with_reducible rfl)
   (try simp only[Act.put,bd])
   refine wpAnyH_ready (rs:=[7]) (by kernel_rfl) (by simp) (AllReadyH.cons rfl (fun K hK=>?_) AllReadyH.nil)
   go_simp
   refine(dA 1 21 4 E _ (by decide)).mono ?_
   rintro e w7 ⟨fv7,rfl,K7,hF7,hf7,hK7⟩
   have H7:=ae (And.intro (show RR dP w5 w7 E fv7 (bC 1 21 4) from⟨K7,hF7,hK7.mono (aa H6).size⟩) ((aa H6).trans hf7 (fun _ _ h=>h)))
   obtain⟨Fc7,caps7,rfl,_⟩:=hF7.ex
   clear hF7 hf7 hK7
   go_simp
   refine hK.out _ _ ((aa H7).2) (fun hHeld=>?_)
   clear hK K
   (try simp only[Act.put,bd])
   refine wpAnyH_ready (rs:=[8]) (by kernel_rfl) (by simp) (AllReadyH.cons rfl (fun K hK=>?_) AllReadyH.nil)
   go_simp
   refine hK.out _ _ ((aa H7).2.alloc _) (fun hHeld=>?_)
   clear hK K
   (try simp only[Act.put,bd])
   refine wpAnyH_done (by kernel_rfl) ?_ _
   simp only[fB]
   go_simp
   refine((aa HN5) w7 _ _ (aa H7).2 (aa H7).1).mono ?_
   rintro e w8 ⟨rfl,F8,hC8,hc8,hs8⟩
   obtain⟨t0,t1,t2,hc5,hL5,hs05⟩:=aa H5
   have hlg5:=(hL5 0).lt
   have hgF5:=(hL5 0).nF
   have hr:=aa HP1
   have HE:Hid (Cd w8 cb b F8 r.1 E∧yT w8 g r.2∧r.2.ok∧ar w w8 F F8 (aC g 0 5)):=by
    rw[hr]
    exact⟨hC8,⟨(hs8.oth g 0 hlg5 hgF5 (fun h=>by omega)).trans t0,(hs8.oth g 1 hlg5 hgF5 (fun h=>by omega)).trans t1,(hs8.oth g 2 hlg5 hgF5 (fun h=>by omega)).trans t2,(hs8.oth g 3 hlg5 hgF5 (fun h=>by omega)).trans hc5,hc8⟩,⟨(aa HF).name,(by decide:(2:Nat)<256),(aa HF).text,CS.zh _ _ _ _ (aa HF).value,CS.rZ _ _ _ _ (aa HF).unit⟩,hs05.trans hs8 (fun k j _ h=>⟨h.1,by omega,by omega⟩)⟩
   clear t0 t1 t2 hc5 hL5 hs05 hC8 hc8 hs8 hr H5 HN5 H7
   go_wp2_with fail
   go_end0
   exact⟨rfl,F8,(aa HE).1,(aa HE).2.1,(aa HE).2.2.1,(aa HE).2.2.2⟩
  ·have m1:((kd:Int) == 1)=false:=by simp;omega
   have m2:((kd:Int) == 2)=false:=by simp;omega
   obtain⟨hC4,hk4',hs4,r0,r2,r3,r4,hL4⟩:=aa H4
   have hr:=aa HP
   rw[if_neg k1,if_neg k2] at hr
   have HE:Hid (Cd w4 cb b F4 r.1 E∧yT w4 g r.2∧r.2.ok∧ar w w4 F F4 (aC g 0 5)):=by
    rw[hr]
    exact⟨hC4,⟨r0,hk4',r2,r3,r4⟩,⟨(aa HF).name,hku,(aa HF).text,(aa HF).value,(aa HF).unit⟩,hs4.mono (fun k j _ h=>⟨h.1,by omega,by omega⟩)⟩
   clear hC4 hk4' hs4 r0 r2 r3 r4 hL4 hr H4 k1 k2
   go_wp2_with fail
   go_end0
   exact⟨rfl,F4,(aa HE).1,(aa HE).2.1,(aa HE).2.2.1,(aa HE).2.2.2⟩
theorem CS.pO (c:CS) (last:Nat) (f:cj):(c.cP last f).2.name=f.name:=by
 unfold CS.cP
 split
 ·rfl
 ·split <;> rfl
def CS.bB (c:CS) (ahead:ByteArray) (last:Nat) (f:cj):CS × cj:=(c.dG bE 64 [fun v=>cu 1 64 v.size,kf ahead] f.name).1.cP last { f with name:=(c.dG bE 64 [fun v=>cu 1 64 v.size,kf ahead] f.name).2 }
theorem CS.fV {c:CS} {n:Nat} (h:c.room (n+1)) (nm:ByteArray) (lo:Int) (rs:List (ByteArray→Nat)) (v:ByteArray):(c.dG nm 64 ((fun v=>cu lo 64 v.size)::rs) v).1.room n:=
 CS.uW h nm 64 _ v (fun e=>by have:=kS rs lo 64 (fun v:ByteArray=>v.size) v e;omega)
theorem j9 (c:CS) (f:cj) (ahead:ByteArray) (last cb b g kc ka kl:Nat) (F:Nat→Prop) (E:Nat→Addr) (w:World) (h:Cd w cb b F c E) (hp:yT w g f) (hL:∀ i,Loc w cb F g i) (hkc:w.cell? ⟨kc,0,none⟩=some (.pointer (some ⟨cb,0,none⟩))) (hka:w.cell? ⟨ka,0,none⟩=some (.string ahead)) (hkl:w.cell? ⟨kl,0,none⟩=some (.int .u8 (last:Nat))) (nc:¬ F kc∧kc≠g∧kc≠ka) (na:Loc w cb F ka 0∧ka≠g) (nl:¬ F kl∧kl≠g∧kl≠ka) (hf:f.ok) (hroom:c.room 4) :
  Calls Tryz.prog 153 #[.pointer (some ⟨g,0,none⟩),.pointer (some ⟨kc,0,none⟩),.pointer (some ⟨ka,0,none⟩),.pointer (some ⟨kl,0,none⟩)] w fun e w'=>e = .returned (.tuple #[])∧∃ F',Cd w' cb b F' (c.bB ahead last f).1 E∧yT w' g (c.bB ahead last f).2∧(c.bB ahead last f).2.ok∧w'.cell? ⟨ka,0,none⟩=some (.string (c.bB ahead last f).2.name)∧ar w w' F F' (fun k j=>aC g 0 5 k j∨(k=ka∧j=0)):=by
 have hsf:=cO
 have HK:=ae (fun (V:World) (hv:Fr (fun _=>False) w V)=>And.intro (aq hv hkc) (aq hv hka))
 have H:=ae (And.intro h (And.intro hL (And.intro hp (And.intro hkc (And.intro hka (And.intro hkl (And.intro nc (And.intro na nl))))))))
 have HN:Hid (∀ (w3:World) (f1:Value) (T:TypeId),Fr (fun _=>False) w w3→RR dD w w3 E f1 (kf ahead)→Calls Tryz.prog 135 #[.pointer (some ⟨cb,0,none⟩),.string bE,.pointer (some ⟨g,0,none⟩),.int .i64 1,.int .i64 64,.slice (some ⟨w3.heap.size,0,none⟩) 1 1] (w3.alloc (.cells #[f1] T)) fun e w'=>e = .returned (.tuple #[])∧∃ F',Cd w' cb b F' (c.dG bE 64 [fun v=>cu 1 64 v.size,kf ahead] f.name).1 E∧w'.cell? ⟨g,0,none⟩=some (.string (c.dG bE 64 [fun v=>cu 1 64 v.size,kf ahead] f.name).2)∧ar w w' F F' (fun k j=>k=g∧j=0)):=fun w3 f1 T hf3 h1=>by
  have hf2:=hf3.trans (al w3 (.cells #[f1] T)) (fun _ _ h=>h)
  refine(pg c bE 1 64 [kf ahead] f.name cb b g 0 F E _ _ (h.aR hf2) (aq hf2 hp.c0) ((hL 0).aR hf2) hf.name (by decide) (lA T h (hL 0) hf3 h1) (by simp) (by simp only[CS.room] at *;omega)).mono ?_
  rintro e w' ⟨rfl,F',hC,hc,hs⟩
  exact⟨rfl,F',hC,hc,(ar.bh hf2 F _).trans hs (fun _ _ _ h=>h)⟩
 have HRM:=ae (CS.fV (n:=3) hroom bE 1 [kf ahead] f.name)
 have HOK:Hid (({ f with name:=(c.dG bE 64 [fun v=>cu 1 64 v.size,kf ahead] f.name).2 } : cj).ok):=⟨CS.uv h bE 64 _ f.name hf.name,hf.kind,hf.text,hf.value,hf.unit⟩
 have HP:Hid (c.bB ahead last f=(c.dG bE 64 [fun v=>cu 1 64 v.size,kf ahead] f.name).1.cP last { f with name:=(c.dG bE 64 [fun v=>cu 1 64 v.size,kf ahead] f.name).2 }):=rfl
 generalize c.bB ahead last f=r at *
 generalize (c.dG bE 64 [fun v=>cu 1 64 v.size,kf ahead] f.name).1=c1 at *
 generalize (c.dG bE 64 [fun v=>cu 1 64 v.size,kf ahead] f.name).2=nmv at *
 clear h hL hp hkc hka hkl nc na nl hroom hf
 go_enter Tryz.func153,Tryz.ntmps153
 go_wp2_with fail
 refine bj (n:=7) (m:=7) (S:=fun V=>Fr (fun _=>False) w V) (by kernel_rfl) rfl rfl rfl (by kernel_rfl) (by kernel_rfl) ((Fr.refl _ _).drew) (fun hHeld=>?_)
 refine cK (i:=0) (v:=?_) rfl (Or.inl ⟨by rfl,?_⟩) hHeld ?_
 rotate_left
 ·intro V hSw;(try dsimp only at hSw);obtain⟨q0,q1⟩:=(aa HK) V hSw;go_simp;(try with_reducible rfl)
 (try simp only[Act.put,bd])
 refine cK (i:=1) (v:=?_) rfl (Or.inl ⟨by rfl,?_⟩) hHeld ?_
 rotate_left
 ·intro V hSw;(try dsimp only at hSw);obtain⟨q0,q1⟩:=(aa HK) V hSw;go_simp;(try with_reducible rfl)
 (try simp only[Act.put,bd])
 refine cK (i:=2) (v:=?_) rfl (Or.inl ⟨by rfl,?_⟩) hHeld ?_
 rotate_left
 ·intro V hSw;(try dsimp only at hSw);obtain⟨q0,q1⟩:=(aa HK) V hSw;go_simp;(try with_reducible rfl)
 (try simp only[Act.put,bd])
 refine cK (i:=3) (v:=?_) rfl (Or.inl ⟨by rfl,?_⟩) hHeld ?_
 rotate_left
 ·intro V hSw;(try dsimp only at hSw);obtain⟨q0,q1⟩:=(aa HK) V hSw;go_simp;(try with_reducible rfl)
 (try simp only[Act.put,bd])
 refine cK (i:=4) (v:=?_) rfl (Or.inl ⟨by rfl,?_⟩) hHeld ?_
 rotate_left
 ·intro V hSw;(try dsimp only at hSw);obtain⟨q0,q1⟩:=(aa HK) V hSw;go_simp;(try with_reducible rfl)
 (try simp only[Act.put,bd])
 refine wpAnyH_ready (rs:=[5]) (by kernel_rfl) (by simp) (AllReadyH.cons rfl (fun K hK=>?_) AllReadyH.nil)
 go_simp
 refine(vU ahead E _ ((aa H).1.g7.fr (Fr.refl (fun _=>False) _).drew (fun _ h=>h.elim))).mono ?_
 rintro e w1 ⟨fv1,rfl,K1,hF1,hf1,hK1⟩
 have H1:=ae (And.intro (show RR dD w w1 E fv1 (kf ahead) from⟨K1,hF1,hK1.mono (Nat.le_refl _)⟩) ((Fr.refl _ _).drew.trans hf1 (fun _ _ h=>h)))
 obtain⟨Fc1,caps1,rfl,_⟩:=hF1.ex
 clear hF1 hf1 hK1
 go_simp
 refine hK.out _ _ ((aa H1).2) (fun hHeld=>?_)
 clear hK K
 (try simp only[Act.put,bd])
 refine wpAnyH_ready (rs:=[6]) (by kernel_rfl) (by simp) (AllReadyH.cons rfl (fun K hK=>?_) AllReadyH.nil)
 go_simp
 refine hK.out _ _ ((aa H1).2.alloc _) (fun hHeld=>?_)
 clear hK K
 (try simp only[Act.put,bd])
 refine wpAnyH_done (by kernel_rfl) ?_ _
 simp only[fB]
 go_simp
 refine((aa HN) w1 _ _ (aa H1).2 (aa H1).1).mono ?_
 rintro e w4 ⟨rfl,F4,hC4,hk4,hs4⟩
 obtain⟨h,hL,hp,hkc,hka,hkl,nc,na,nl⟩:=aa H
 have hlg:=(hL 0).lt
 have hgF:=(hL 0).nF
 have p4:yT w4 g { f with name:=nmv } := ⟨hk4,(hs4.oth g 1 hlg hgF (fun h=>by omega)).trans hp.c1,(hs4.oth g 2 hlg hgF (fun h=>by omega)).trans hp.c2,(hs4.oth g 3 hlg hgF (fun h=>by omega)).trans hp.c3,(hs4.oth g 4 hlg hgF (fun h=>by omega)).trans hp.c4⟩
 have hL4:=fun i=>(hL i).aP hs4
 have kc4:w4.cell? ⟨kc,0,none⟩=some (.pointer (some ⟨cb,0,none⟩)):=(hs4.oth kc 0 (ab hkc) nc.1 (fun h=>nc.2.1 h.1)).trans hkc
 have ka4:w4.cell? ⟨ka,0,none⟩=some (.string ahead):=(hs4.oth ka 0 (ab hka) na.1.nF (fun h=>na.2 h.1)).trans hka
 have kl4:w4.cell? ⟨kl,0,none⟩=some (.int .u8 (last:Nat)):=(hs4.oth kl 0 (ab hkl) nl.1 (fun h=>nl.2.1 h.1)).trans hkl
 have HFD:=ae (vp c1 { f with name:=nmv } last cb b g F4 E w4 hC4 p4 hL4 (aa HOK) (aa HRM))
 have H4:=ae (And.intro hs4 (And.intro hL4 (And.intro ka4 (na.1.aP hs4))))
 clear h hL hp hkc hka hkl nc nl hC4 hs4 p4 hL4 ka4 hk4 hlg hgF H1 HN HK hsf
 go_wp2_with fail
 refine(aa HFD).mono ?_
 rintro e w5 ⟨rfl,F5,hC5,hp5,hok5,hs5⟩
 have hr:=aa HP
 have hn5:(c1.cP last { f with name:=nmv }).2.name=nmv:=CS.pO _ _ _
 have c5:w5.cell? ⟨g,0,none⟩=some (.string nmv):=by rw[hp5.c0,hn5]
 obtain⟨hs4,hL4,ka4,hA4⟩:=aa H4
 have hka4:=ab ka4
 have a5:w5.cell? ⟨ka,0,none⟩=some (.string ahead):=(hs5.oth ka 0 hka4 hA4.nF (fun h=>na.2 h.1)).trans ka4
 have hA5:=hA4.aP hs5
 have fz5:=hA5.fz
 have HE:Hid (∀ V,V=w5.setCell ⟨ka,0,none⟩ (.string nmv)→Cd V cb b F5 r.1 E∧yT V g r.2∧r.2.ok∧V.cell? ⟨ka,0,none⟩=some (.string r.2.name)∧ar w V F F5 (fun k j=>aC g 0 5 k j∨(k=ka∧j=0))):=by
  rintro V rfl
  rw[hr]
  have hoth:∀ i,(w5.setCell ⟨ka,0,none⟩ (.string nmv)).cell? ⟨g,i,none⟩=w5.cell? ⟨g,i,none⟩:=fun i=>World.cell?_setCell_other _ _ _ _ (by intro e;injection e with e1 _ _;exact na.2 e1)
  refine⟨hC5.fr ((Fr.refl (fun k=>k=ka) _).setCell (.inl rfl) _) (fun k hk e=>hA5.nF (e ▸ hk)) (fun e=>hA5.nc e.symm) (fun k e=>by rw[e];exact hA5.lo),⟨(hoth 0).trans hp5.c0,(hoth 1).trans hp5.c1,(hoth 2).trans hp5.c2,(hoth 3).trans hp5.c3,(hoth 4).trans hp5.c4⟩,hok5,?_,?_⟩
  ·rw[hn5];exact World.cell?_setCell_same _ _ _ a5
  ·exact((hs4.mono (fun k j _ h=>.inl ⟨h.1,by omega,by omega⟩)).trans hs5 (fun k j _ h=>.inl h)).trans (ar.set ka 0 _) (fun k j _ h=>.inr h)
 clear hC5 hp5 hs5 hok5 hr hn5 hs4 hL4 ka4 hA4 hA5 H4 HFD HP na
 go_wp2_with fail
 go_end0
 obtain⟨e1,e2,e3,e4,e5⟩:=(aa HE) _ rfl
 exact⟨rfl,F5,e1,e2,e3,e4,e5⟩
def mn {σ α:Type} (each:σ→α→σ × α):σ→List α→σ
  | s,[]=>s
  | s,x::xs=>mn each (each s x).1 xs
theorem yh {σ α:Type} (each:σ→α→σ × α) (xs:List α):∀ (s:σ) (x:α),mn each s (xs++[x])=(each (mn each s xs) x).1:=by
  induction xs with
  | nil=>intro s x;rfl
  | cons y ys ih=>intro s x;exact ih _ x
theorem yx {σ α:Type} (each:σ→α→σ × α) (s:σ) (xs:List α) (k:Nat) (x:α) (h:xs[k]?=some x):mn each s (xs.take (k+1))=(each (mn each s (xs.take k)) x).1:=by
  rw[List.take_add_one,h,Option.toList_some,yh]
def fC {σ α:Type} (each:σ→α→σ × α) (z:α):Nat→σ→σ × List α
  | 0,s=>(s,[])
  | n+1,s=>((each (fC each z n s).1 z).1,(fC each z n s).2++[(each (fC each z n s).1 z).2])
theorem An {σ α:Type} (each:σ→α→σ × α) (z:α) (s:σ) (n:Nat):(fC each z n s).2.length=n:=by
  induction n with
  | zero=>rfl
  | succ n ih=>simp[fC,ih]
theorem CS.room_le {c:CS} {n m:Nat} (h:c.room n) (hm:m≤n):c.room m:=by
  simp only[CS.room] at *
  omega
theorem CS.pS {c:CS} {n:Nat} (h:c.room (n+3)) (last:Nat) (f:cj):(c.cP last f).1.room n:=by
  have h1:=CS.ch (n:=n+2) h ay [bC 1 last 5,gh f.beside] f.kind
  unfold CS.cP
  split
  · exact CS.room_le (CS.fV (n:=n+1) h1 dW 0 [] f.text) (by omega)
  · split
    · exact CS.ch (CS.nC h1 _ _ _) _ _ _
    · exact CS.room_le h1 (by omega)
theorem CS.kp {c:CS} {n:Nat} (h:c.room (n+4)) (ahead:ByteArray) (last:Nat) (f:cj):(c.bB ahead last f).1.room n:=CS.pS (CS.fV (n:=n+3) h _ _ _ _) _ _
theorem CS.vN (s:Wq) (last:Nat) (f:cj):∃ s',((CS.wr s).cP last f).1 = .wr s':=by
  unfold CS.cP
  split
  · exact⟨_,rfl⟩
  · split
    · exact⟨_,rfl⟩
    · exact⟨_,rfl⟩
theorem CS.uY (q:Q) (last:Nat) (f:cj):∃ q',((CS.rd q).cP last f).1 = .rd q':=by
  unfold CS.cP
  split
  · exact⟨_,rfl⟩
  · split
    · exact⟨_,rfl⟩
    · exact⟨_,rfl⟩
theorem CS.jJ (s:Wq) (ahead:ByteArray) (last:Nat) (f:cj):∃ s',((CS.wr s).bB ahead last f).1 = .wr s':=CS.vN _ _ _
theorem CS.jO (q:Q) (ahead:ByteArray) (last:Nat) (f:cj):∃ q',((CS.rd q).bB ahead last f).1 = .rd q':=CS.uY _ _ _
theorem ag {w:World} {b o t:Nat} {cs:Array Value} {v:Value} (h:w.heap[b]?=some (.cells cs t)) (hv:cs[o]?=some v):w.cell? ⟨b,o,none⟩=some v:=by
  simp[World.cell?,h,hv]
def aU (last:Nat) (s:CS × ByteArray) (f:cj):(CS × ByteArray) × cj:=(((s.1.bB s.2 last f).1,(s.1.bB s.2 last f).2.name),(s.1.bB s.2 last f).2)
structure B8 (w:World) (xo:Option Addr) (xc:Nat) (l:List cj) (F:Nat→Prop):Prop where
  cap:l.length≤xc
  el:∀ (j:Nat) f,l[j]?=some f→f.ok∧∃ g o,xo=some ⟨g,o,none⟩∧¬ F g∧w.cell? ⟨g,o+j * 5,none⟩=some (.string f.name)∧w.cell? ⟨g,o+j * 5+1,none⟩=some (.int .u8 (f.kind:Nat))∧w.cell? ⟨g,o+j * 5+2,none⟩=some (.string f.text)∧w.cell? ⟨g,o+j * 5+3,none⟩=some (.float .f32 f.value)∧w.cell? ⟨g,o+j * 5+4,none⟩=some (.int .u8 (f.unit:Nat))
theorem B8.aP {w w':World} {xo:Option Addr} {xc:Nat} {l:List cj} {F F':Nat→Prop} {P:Nat→Nat→Prop} (h:B8 w xo xc l F) (hs:ar w w' F F' P) (hP:∀ g o,xo=some ⟨g,o,none⟩→∀ i,g<w.heap.size→¬ P g i):B8 w' xo xc l F':=by
  refine⟨h.cap,fun j f hf=>?_⟩
  obtain⟨h0,g,o,h1,h2,h3,h4,h5,h6,h7⟩:=h.el j f hf
  have hlt:g<w.heap.size:=ab h3
  have hp:=fun i=>hP g o h1 i hlt
  exact⟨h0,g,o,h1,hs.nF hlt h2,(hs.oth g _ hlt h2 (hp _)).trans h3,(hs.oth g _ hlt h2 (hp _)).trans h4,(hs.oth g _ hlt h2 (hp _)).trans h5,(hs.oth g _ hlt h2 (hp _)).trans h6,(hs.oth g _ hlt h2 (hp _)).trans h7⟩
structure vZ (w:World) (cb kc ka kl:Nat) (F:Nat→Prop) (ahead:ByteArray) (last:Nat):Prop where
  c:w.cell? ⟨kc,0,none⟩=some (.pointer (some ⟨cb,0,none⟩))
  a:w.cell? ⟨ka,0,none⟩=some (.string ahead)
  l:w.cell? ⟨kl,0,none⟩=some (.int .u8 (last:Nat))
  nc:¬ F kc∧kc≠ka
  nl:¬ F kl∧kl≠ka
  na:Loc w cb F ka 0
theorem vZ.aP {w w':World} {cb kc ka kl:Nat} {F F':Nat→Prop} {ahead ahead':ByteArray} {last:Nat} {P:Nat→Nat→Prop} (h:vZ w cb kc ka kl F ahead last) (hs:ar w w' F F' P) (hP:∀ j,¬ P kc j∧¬ P kl j) (ha:w'.cell? ⟨ka,0,none⟩=some (.string ahead')):vZ w' cb kc ka kl F' ahead' last:=
  ⟨(hs.oth kc 0 (ab h.c) h.nc.1 (hP 0).1).trans h.c,ha,(hs.oth kl 0 (ab h.l) h.nl.1 (hP 0).2).trans h.l,⟨hs.nF (ab h.c) h.nc.1,h.nc.2⟩,⟨hs.nF (ab h.l) h.nl.1,h.nl.2⟩,h.na.aP hs⟩
theorem oh (s:Wq) (rs:List (Int→Nat)) (ro:Option Addr) (rc:Nat) (last cb b g i kc ka kl:Nat) (ahead:ByteArray) (F:Nat→Prop) (E:Nat→Addr) (xo:Option Addr) (xc:Nat) (l:List cj) (w:World) (h:Cd w cb b F (.wr s) E) (hn:l.length<9223372036854775808) (hp:w.cell? ⟨g,i,none⟩=some (.slice xo l.length xc)) (hL:Loc w cb F g i) (hl:B8 w xo xc l F) (hla:∀ g' o,xo=some ⟨g',o,none⟩→l≠[]→g'≠ka) (hga:g≠ka) (hK:vZ w cb kc ka kl F ahead last) (hR:∃ K,dC dm w K (.slice ro rs.length rc) E rs∧∀ k,K k→¬ F k) (hrs:rs.length<1000) (hroom:(CS.wr s).room 200) :
    Calls Tryz.prog 152 #[.pointer (some ⟨cb,0,none⟩),.string ak,.pointer (some ⟨g,i,none⟩),.int .i64 32,.func (.func 153) #[] #[.pointer (some ⟨kc,0,none⟩),.pointer (some ⟨ka,0,none⟩),.pointer (some ⟨kl,0,none⟩)],.slice ro rs.length rc] w fun e w'=>e = .returned (.tuple #[])∧∃ F',Cd w' cb b F' (mn (aU last) (((CS.wr s).cv ak 32 (dU 32 rs) l.length).1,ahead) (l.take (min l.length 32))).1 E∧ar w w' F F' (fun k j=>k=ka∧j=0):=by
  have k2:=h.g7.k2
  have hl2:=ab k2
  have hsf:=cO
  have hent:∀ (x:Value) (W:World),(callFunc 153 (#[x] ++ #[.pointer (some ⟨kc,0,none⟩),.pointer (some ⟨ka,0,none⟩),.pointer (some ⟨kl,0,none⟩)])).run Tryz.prog W = .ok (.enter 153 (#[x] ++ #[.pointer (some ⟨kc,0,none⟩),.pointer (some ⟨ka,0,none⟩),.pointer (some ⟨kl,0,none⟩)])) W:=fun _ W=>enters Tryz.func153 rfl rfl _ W
  obtain⟨n,hnl⟩:∃ n,n=l.length:=⟨_,rfl⟩
  rw[← hnl] at hn hp ⊢
  have HNL:=ae hnl
  clear hnl
  have hhead:=fR (.wr s) ak n 32 rs cb b F E (.slice ro rs.length rc) w h (by omega) (by decide) hR hrs (by simp only[CS.room] at *;omega) 3
  obtain⟨c1,hc1⟩:∃ c1,c1=((CS.wr s).cv ak 32 (dU 32 rs) n).1:=⟨_,rfl⟩
  have hn1:((CS.wr s).cv ak 32 (dU 32 rs) n).2=n:=rfl
  have hroom1:c1.room 199:=by rw[hc1];exact CS.gU hroom _ _ _ _
  have hw1:∃ s,c1 = .wr s:=⟨_,hc1⟩
  rw[← hc1,hn1] at hhead
  rw[← hc1]
  clear hc1 hn1
  have HG:=ae hhead
  clear hhead
  obtain⟨N,hN⟩:∃ N,N=min n 32:=⟨_,rfl⟩
  rw[← hN]
  have hNn:N≤n:=by omega
  have hNm:N≤32:=by omega
  have HM:=ae hN
  clear hN
  have HW:=ae (dx 0 32 2 E (w.alloc (.cells #[.int .i64 n] 3)) (by decide))
  have H:=ae (And.intro h (And.intro hL (And.intro hl (And.intro hK (And.intro hroom1 (And.intro hw1 hla))))))
  have hlp:=hL.lt
  clear h hL hl hroom hroom1 hw1 hK hR hla
  go_enter Tryz.func152,Tryz.ntmps152
  go_wp2_with fail
  refine(aa HW).mono ?_
  rintro e w1 ⟨fv,rfl,K0,hF,hf1,hK0⟩
  obtain⟨ao,cp,w2,hr,hcall⟩:=(aa HG) w1 fv K0 hF hf1 hK0 ro rc rfl
  obtain⟨Fc,caps,rfl,_⟩:=hF.ex
  have HR:=ae hr
  have HC:=ae hcall
  clear hF hf1 hK0 hr hcall
  go_wp2_with (at_builtin;refine br rfl _ _ 278 278 rfl _ _ _ rfl rfl (aa HR) ?_)
  refine(aa HC).mono ?_
  rintro e w3 ⟨rfl,F3,hC3,hn3,hlt3,hnF3,hs3⟩
  have H3:=ae (And.intro hC3 hs3)
  clear hC3 hs3 hlt3 hnF3
  by_cases hnm:n≤32
  all_goals
    go_wp2_with fail
    go_loopw [32] (fun iv wr=>∃ (k:Nat) (Fk:Nat→Prop),k≤N∧iv = .int .i64 (k:Nat)∧Cd wr cb b Fk (mn (aU last) (c1,ahead) (l.take k)).1 E∧(∃ s',(mn (aU last) (c1,ahead) (l.take k)).1 = .wr s')∧vZ wr cb kc ka kl Fk (mn (aU last) (c1,ahead) (l.take k)).2 last∧(mn (aU last) (c1,ahead) (l.take k)).1.room (199 - 4 * k)∧ar w wr F Fk (fun k j=>k=ka∧j=0)) (fun iv _=>N - (intOf iv).toNat)
    case atStart =>
      obtain⟨hC3,hs3⟩:=aa H3
      have hK:=(aa H).2.2.2.1
      exact⟨0,F3,Nat.zero_le _,rfl,hC3,(aa H).2.2.2.2.2.1,hK.aP hs3 (fun _=>⟨fun h=>h,fun h=>h⟩) ((hs3.oth ka 0 hK.na.lt hK.na.nF (fun h=>h)).trans hK.a),(aa H).2.2.2.2.1,hs3.mono (fun _ _ _ h=>h.elim)⟩
    case round =>
      obtain⟨k,Fk,hk,rfl,hCk,⟨sk,hsk⟩,hKk,hrk,hsk2⟩:=hrel
      by_cases hlt:k<N
      · have hlt':(k:Int)<(n:Int):=by omega
        have hltm:(k:Int)<32:=by have:=aa HM;omega
        obtain⟨f,hfk⟩:∃ f,l[k]?=some f:=⟨l[k]'(by have:=aa HNL;omega),List.getElem?_eq_getElem (by have:=aa HNL;omega)⟩
        have hlk:=(aa H).2.2.1.aP hsk2 (fun g' o e i _ h=>(aa H).2.2.2.2.2.2 g' o e (by rintro rfl;simp at hfk) h.1)
        obtain⟨hfok,eg,eo,rfl,hegF,e0,e1,e2,e3,e4⟩:=hlk.el k f hfk
        have hpr:wr.cell? ⟨g,i,none⟩=some (.slice (some ⟨eg,eo,none⟩) n xc):=(hsk2.oth g i hlp (aa H).2.1.nF (fun h=>hga h.1)).trans hp
        obtain⟨st,hst⟩:∃ st,st=mn (aU last) (c1,ahead) (l.take k):=⟨_,rfl⟩
        rw[← hst] at hCk hsk hKk hrk
        rw[hsk] at hCk hrk
        have h0r:wr.cell? ⟨cb,0,none⟩=some (.pointer (some ⟨b,0,none⟩)):=hCk.c0
        have h1r:wr.cell? ⟨cb,1,none⟩=some (.pointer none):=hCk.c1
        have hlg:=ab hpr
        have hlcr:=ab h0r
        have hler:=ab e0
        have hcapk:k≤xc:=by have:=(aa H).2.2.1.cap;have:=aa HNL;omega
        have hbx:=al wr (.cells #[.string f.name,.int .u8 (f.kind:Nat),.string f.text,.float .f32 f.value,.int .u8 (f.unit:Nat)] 59)
        have hblk:=heap_alloc_new wr (.cells #[.string f.name,.int .u8 (f.kind:Nat),.string f.text,.float .f32 f.value,.int .u8 (f.unit:Nat)] 59)
        have HCL:=ae (j9 (.wr sk) f st.2 last cb b wr.heap.size kc ka kl Fk E _ (hCk.aR hbx) ⟨ag (o:=0) hblk rfl,ag (o:=1) hblk rfl,ag (o:=2) hblk rfl,ag (o:=3) hblk rfl,ag (o:=4) hblk rfl⟩ (fun i=>hCk.box _ _ i) (aq hbx hKk.c) (aq hbx hKk.a) (aq hbx hKk.l) ⟨hKk.nc.1,by have:=ab hKk.c;simp only at this;omega,hKk.nc.2⟩ ⟨hKk.na.aR hbx,by have:=hKk.na.lt;omega⟩ ⟨hKk.nl.1,by have:=ab hKk.l;simp only at this;omega,hKk.nl.2⟩ hfok (CS.room_le hrk (by omega)))
        have HK:=ae (And.intro hrk (And.intro hsk2 (And.intro hfk (And.intro hsk (And.intro hst (And.intro hKk hbx))))))
        clear hCk hrk hsk2 hfk hsk hst hlk hKk hfok hblk hbx hegF
        go_wp2_with fail
        refine(aa HCL).mono ?_
        rintro e w4 ⟨rfl,F4,hC4,_,_,ha4,hs4⟩
        obtain⟨hrk,hsk2,hfk,hsk,hst,hKk,hbx⟩:=aa HK
        have hs5:ar wr w4 Fk F4 (fun k j=>(k=wr.heap.size∧0≤j)∨(k=ka∧j=0)):=(ar.bh hbx Fk _).trans hs4 (fun k j _ h=>h.imp (fun h=>⟨h.1,by omega⟩) id)
        have es:=yx (aU last) (c1,ahead) l k f hfk
        rw[← hst] at es
        have e1':(mn (aU last) (c1,ahead) (l.take (k+1))).1=((CS.wr sk).bB st.2 last f).1:=by rw[es];show(st.1.bB st.2 last f).1=_;rw[hsk]
        have e2':(mn (aU last) (c1,ahead) (l.take (k+1))).2=((CS.wr sk).bB st.2 last f).2.name:=by rw[es];show(st.1.bB st.2 last f).2.name=_;rw[hsk]
        have HFIN:Hid (Cd w4 cb b F4 (mn (aU last) (c1,ahead) (l.take (k+1))).1 E∧(∃ s',(mn (aU last) (c1,ahead) (l.take (k+1))).1 = .wr s')∧vZ w4 cb kc ka kl F4 (mn (aU last) (c1,ahead) (l.take (k+1))).2 last∧(mn (aU last) (c1,ahead) (l.take (k+1))).1.room (199 - 4 * (k+1))∧ar w w4 F F4 (fun k j=>k=ka∧j=0)):=by
          rw[e1',e2']
          refine⟨hC4,CS.jJ sk _ _ _,hKk.aP hs5 (fun j=>⟨fun h=>?_,fun h=>?_⟩) ha4,CS.kp (CS.room_le hrk (by omega)) _ _ _,hsk2.trans hs5 (fun k j hk h=>h.elim (fun h=>by have:=hsk2.size;omega) id)⟩
          · have h9:=ab hKk.c
            simp only at h9
            rcases h with h|h
            · omega
            · exact hKk.nc.2 h.1
          · have h9:=ab hKk.l
            simp only at h9
            rcases h with h|h
            · omega
            · exact hKk.nl.2 h.1
        have h1w:w4.cell? ⟨cb,1,none⟩=some (.pointer none):=by
          obtain⟨s4,e4'⟩:=CS.jJ sk st.2 last f
          have h9:=hC4.c1
          rw[e4'] at h9
          exact h9
        have hlc4:=ab h1w
        clear hC4 hs4 hs5 ha4 hrk hsk2 hfk hsk hst hKk hbx es e1' e2' HK HCL e0 e1 e2 e3 e4 hpr h0r h1r
        go_wp2_with fail
        exact⟨⟨k+1,F4,by omega,by go_num,(aa HFIN).1,(aa HFIN).2.1,(aa HFIN).2.2.1,(aa HFIN).2.2.2.1,(aa HFIN).2.2.2.2⟩,by simp[intOf];omega⟩
      · have hkN:k=N:=by omega
        have HK:=ae (And.intro hCk hsk2)
        clear hCk hsk hrk hsk2 hKk
        first
          | (have hlt':¬ (k:Int)<(n:Int):=by have:=aa HM;omega
             go_wp2_with fail)
          | (have hlt':¬ (k:Int)<32:=by have:=aa HM;omega
             go_wp2_with fail)
        go_end0
        rw[hkN] at HK
        exact⟨rfl,Fk,(aa HK).1,(aa HK).2⟩
structure PV where
 p:PT
 x:Value
def PV.cs (q:PV):List Value:=[.string q.p.nm,.int .i64 (q.p.k:Nat),.int .u64 (q.p.u:Nat),q.x,.int .i64 (q.p.wy:Nat)]
structure PV.In (w:World) (q:PV):Prop where
 src:Src w q.x q.p.b
 lt:∀ g o n c,q.x = .slice (some ⟨g,o,none⟩) (n+1) c→g<w.heap.size
def PV.uH (q:PV) (S:Nat→Prop):Prop:=∀ g o n c,q.x = .slice (some ⟨g,o,none⟩) (n+1) c→¬ S g
theorem Src.frP {w w':World} {x:Value} {l:List Nat} {S:Nat→Prop} (h:Src w x l) (hf:Fr S w w') (hS:∀ g o n c,x = .slice (some ⟨g,o,none⟩) (n+1) c→¬ S g):Src w' x l:=by
 rcases h with h|⟨g,o,c,hx,hc⟩|h
 ·exact .inl h
 ·cases l with
  | nil=>exact .inr (.inr ⟨_,c,hx,rfl⟩)
  | cons a r=>exact .inr (.inl ⟨g,o,c,hx,fun j v hv=>(hf.cell (p:=⟨g,o+j,none⟩) (ab (hc j v hv)) (hS g o _ c hx)).trans (hc j v hv)⟩)
 ·exact .inr (.inr h)
theorem PV.In.fr {w w':World} {q:PV} {S:Nat→Prop} (h:q.In w) (hf:Fr S w w') (hS:q.uH S):q.In w':=
 ⟨h.src.frP hf hS,fun g o n c e=>Nat.lt_of_lt_of_le (h.lt g o n c e) hf.size⟩
theorem PV.In.aR {w w':World} {q:PV} (h:q.In w) (hf:Fr (fun _=>False) w w'):q.In w':=h.fr hf (fun _ _ _ _ _ h=>h)
theorem PV.In.one {w:World} {q:PV} (h:q.In w):∀ u∈q.cs,u.oneCell'=true:=by
 obtain⟨xo,xc,e⟩:=h.src.form
 intro u hu
 simp only[PV.cs,e,List.mem_cons,List.not_mem_nil,or_false] at hu
 rcases hu with rfl|rfl|rfl|rfl|rfl <;> rfl
theorem oO (l:List PV):(l.flatMap PV.cs).length=l.length * 5:=by
 induction l with
 | nil=>rfl
 | cons x r ih=>rw[List.flatMap_cons,List.length_append,ih,List.length_cons];simp only[PV.cs,List.length_cons,List.length_nil];omega
theorem sH:∀ (l:List PV) (i j:Nat) (x:PV),l[i]?=some x→j<5→(l.flatMap PV.cs)[i * 5+j]?=x.cs[j]?
 | [],i,j,x,h,_=>by simp at h
 | y::r,0,j,x,h,hj=>by
  simp only[List.getElem?_cons_zero,Option.some.injEq] at h
  subst h
  rw[List.flatMap_cons,Nat.zero_mul,Nat.zero_add,List.getElem?_append_left (by simp only[PV.cs,List.length_cons,List.length_nil];omega)]
 | y::r,i+1,j,x,h,hj=>by
  have ih:=sH r i j x (by simpa using h) hj
  have hl:y.cs.length=5:=rfl
  rw[List.flatMap_cons,List.getElem?_append_right (by rw[hl];omega),hl,← ih]
  congr 1
  omega
structure PL (w:World) (base:Nat) (v:Value) (L:List PV):Prop where
 row:w.ownsRow base 110 5 v L.length (L.flatMap PV.cs)
 el:∀ q∈L,q.In w∧q.uH (fun g=>v.ownBlock=some g)
theorem PL.aR {w w':World} {base:Nat} {v:Value} {L:List PV} (h:PL w base v L) (hf:Fr (fun _=>False) w w'):PL w' base v L:=
 ⟨av h.row (fun g hg=>hf.block g (h.row.lt g hg).2 (fun h=>h)),fun q hq=>⟨(h.el q hq).1.aR hf,(h.el q hq).2⟩⟩
theorem PL.base {w:World} {base base':Nat} {v:Value} {L:List PV} (h:PL w base v L) (hb:base'≤base):PL w base' v L:=⟨aH h.row hb,h.el⟩
theorem PL.nil (w:World) (base:Nat):PL w base (.slice none 0 0) []:=⟨World.ownsRow_nil _ _ _ _,fun q hq=>by simp at hq⟩
theorem PL.form {w:World} {base:Nat} {v:Value} {L:List PV} (h:PL w base v L):∃ ao cap,v = .slice ao L.length cap:=by
 rcases h.row.2 with ⟨e,e2⟩|⟨g,cap,cur,e,_⟩
 ·have:L.length=0:=e2
  exact⟨none,0,by rw[e,this]⟩
 ·exact⟨some ⟨g,0,none⟩,cap,e⟩
theorem PL.cells {w:World} {base:Nat} {xo:Option Addr} {n xc:Nat} {L:List PV} (h:PL w base (.slice xo n xc) L):∀ j u,(L.flatMap PV.cs)[j]?=some u→∃ g o,xo=some ⟨g,o,none⟩∧w.cell? ⟨g,o+j,none⟩=some u:=fun j u hu=>by
 have hj:=(List.getElem?_eq_some_iff.1 hu).1
 rw[oO] at hj
 rcases h.row.2 with ⟨e,e2⟩|⟨g,cap,cur,e,_⟩
 ·have:L.length=0:=e2
  omega
 ·have e3:xo=some ⟨g,0,none⟩:=by injection e
  subst e3
  obtain rfl:n=L.length:=by injection e
  obtain rfl:xc=cap:=by injection e
  refine⟨g,0,rfl,?_⟩
  rw[Nat.zero_add,h.row.cellAt j hj]
  exact hu
theorem Tryz.BC:(Tryz.prog.info? 110).map (fun i=>(i.zero,i.size,i.bytes))=some (some (.agg #[.string ⟨#[]⟩,.int .i64 0,.int .u64 0,.slice none 0 0,.int .i64 0]),5,64):=by kernel_rfl
theorem PL.app {w:World} {base:Nat} {v:Value} {L:List PV} (h:PL w base v L) (hb:base≤w.heap.size) (xo:Option Addr) (xc:Nat) (X:List PV) (hxc:∀ j u,(X.flatMap PV.cs)[j]?=some u→∃ g o,xo=some ⟨g,o,none⟩∧w.cell? ⟨g,o+j,none⟩=some u)
  (hX:∀ q∈X,q.In w∧q.uH (fun g=>v.ownBlock=some g)) (hn:L.length+X.length≤16777216) (hz:xo=none→xc=0) :
  ∃ ao cap w',(Builtin.append_ #[74,74] 74 #[v,.slice xo X.length xc]).run Tryz.prog w = .ok (.slice ao (L.length+X.length) cap) w'∧PL w' base (.slice ao (L.length+X.length) cap) (L++X)∧Fr (fun g=>v.ownBlock=some g) w w' ∧
   ((Value.slice ao (L.length+X.length) cap).ownBlock=v.ownBlock∨(Value.slice ao (L.length+X.length) cap).ownBlock=some w.heap.size):=by
 obtain⟨i0,hi,hz0,hz1,hz2⟩:=info_parts Tryz.BC
 have h1:∀ u∈X.flatMap PV.cs,u.oneCell'=true:=fun u hu=>by
  obtain⟨q,hq,hu⟩:=List.mem_flatMap.1 hu
  exact(hX q hq).1.one u hu
 cases xo with
 | none =>
  obtain rfl:=hz rfl
  have hX0:X=[]:=by
   cases X with
   | nil=>rfl
   | cons q r =>
    obtain⟨g,o,e,_⟩:=hxc 0 (.string q.p.nm) (by simp[PV.cs])
    cases e
  subst hX0
  have hr:=run_append_owned_none (P:=Tryz.prog) w base 74 74 110 i0 5 Tryz.underlying74 hi v L.length _ h.row
  obtain⟨ao,cap,rfl⟩:=h.form
  exact⟨ao,cap,w,by simpa using hr,by simpa using h,Fr.refl _ _,.inl rfl⟩
 | some a =>
  obtain⟨v',w',hr,h2,h3,_,h5⟩:=run_append_own_at (P:=Tryz.prog) (w:=w) base 74 74 110 i0 (.agg #[.string ⟨#[]⟩,.int .i64 0,.int .u64 0,.slice none 0 0,.int .i64 0]) 5 64 Tryz.underlying74 hi hz0 hz1 hz2 rfl (by decide) v L.length _ h.row a X.length xc (X.flatMap PV.cs) (oO X) (fun j u hu=>by
   obtain⟨g,o,e,hc⟩:=hxc j u hu
   have e':a=⟨g,o,none⟩:=by injection e
   subst e'
   rw[addr_add]
   exact hc) h1 (by simp only[maxLen];omega) (by omega) hb
  have hf:Fr (fun g=>v.ownBlock=some g) w w':=(Fr.refl _ w).grown h3 (fun g hg=>.inl hg)
  have hform:∃ ao cap,v' = .slice ao (L.length+X.length) cap:=by
   rcases h2.2 with ⟨e,e2⟩|⟨g,cap,cur,e,_⟩
   ·exact⟨none,0,by rw[e,e2]⟩
   ·exact⟨some ⟨g,0,none⟩,cap,e⟩
  obtain⟨ao,cap,rfl⟩:=hform
  refine⟨ao,cap,w',hr,⟨by rw[List.flatMap_append,List.length_append];exact h2,fun q hq=>?_⟩,hf,h5⟩
  have hq':q.In w∧q.uH (fun g=>v.ownBlock=some g):=by
   rcases List.mem_append.1 hq with hq|hq
   ·exact h.el q hq
   ·exact hX q hq
  refine⟨hq'.1.fr hf hq'.2,fun g o n c e hg=>?_⟩
  rcases h5 with e5|e5
  ·rw[e5] at hg
   exact hq'.2 g o n c e hg
  ·rw[e5] at hg
   have:=hq'.1.lt g o n c e
   simp only[Option.some.injEq] at hg
   omega
theorem PL.lit (w:World) (base:Nat) (X:List PV) (hb:base≤w.heap.size) (hX:∀ q∈X,q.In w) (hn:X.length≤16777216):PL (w.alloc (.cells (X.flatMap PV.cs).toArray 110)) base (.slice (some ⟨w.heap.size,0,none⟩) X.length X.length) X:=
 ⟨by
  have:=World.ownsRow_lit (base:=base) (e:=110) (size:=5) w (X.flatMap PV.cs).toArray X.length hb (by simp only[maxLen];omega) (by rw[List.size_toArray,oO])
  simpa using this,fun q hq=>⟨(hX q hq).aR (al w _),fun g o n c e hg=>by
  have:=(hX q hq).lt g o n c e
  simp only[Value.ownBlock,Option.some.injEq] at hg
  omega⟩⟩
def Bl (B lo:Nat) (L:List PV):Prop:=∀ q∈L,∀ g o n c,q.x = .slice (some ⟨g,o,none⟩) (n+1) c→g<B∨lo≤g
theorem Bl.mono {B B' lo lo':Nat} {L:List PV} (h:Bl B lo L) (hB:B≤B') (hl:lo'≤lo):Bl B' lo' L:=fun q hq g o n c e=>by
 have:=h q hq g o n c e
 omega
theorem Bl.Dq (B lo:Nat) {L:List PV} (h:∀ q∈L,q.x = .slice none 0 0):Bl B lo L:=fun q hq g o n c e=>by rw[h q hq] at e;cases e
theorem PL.lt {w:World} {base:Nat} {v:Value} {L:List PV} (h:PL w base v L):∀ g,v.ownBlock=some g→base≤g∧g<w.heap.size:=fun g hg=>h.row.lt g hg
theorem Bl.uH {w:World} {base B lo:Nat} {v:Value} {L X:List PV} (h:PL w base v L) (k:Bl B lo X) (hB:B≤base) (hl:w.heap.size≤lo):∀ q∈X,q.uH (fun g=>v.ownBlock=some g):=fun q hq g o n c e hg=>by
 have h1:=h.lt g hg
 have h2:=k q hq g o n c e
 omega
theorem fW {a w w':World} {S:Nat→Prop} (h:Fr (fun _=>False) a w) (k:Fr S w w') (hS:∀ i,S i→a.heap.size≤i):Fr (fun _=>False) a w':=
 h.trans k (fun i hi hs=>by have:=hS i hs;omega)
theorem PL.add {w:World} {base:Nat} {v:Value} {L:List PV} (h:PL w base v L) (hb:base≤w.heap.size) (X:List PV) (hX:∀ q∈X,q.In w) (hfar:∀ q∈X,q.uH (fun g=>v.ownBlock=some g)) (hn:L.length+X.length≤16777216) :
  ∃ ao cap w',(Builtin.append_ #[74,74] 74 #[v,.slice (some ⟨w.heap.size,0,none⟩) X.length X.length]).run Tryz.prog (w.alloc (.cells (X.flatMap PV.cs).toArray 110)) = .ok (.slice ao (L.length+X.length) cap) w'∧PL w' base (.slice ao (L.length+X.length) cap) (L++X)∧Fr (fun g=>v.ownBlock=some g) w w':=by
 have hl:=PL.lit w base X hb hX (by omega)
 obtain⟨ao,cap,w',h1,h2,h3,_⟩:=(h.aR (al w (.cells (X.flatMap PV.cs).toArray 110))).app (by simp;omega) (some ⟨w.heap.size,0,none⟩) X.length X hl.cells (fun q hq=>⟨(hX q hq).aR (al w _),hfar q hq⟩) hn (fun e=>by cases e)
 exact⟨ao,cap,w',h1,h2,((al w _).mono (fun _ _ h=>h.elim)).trans h3 (fun _ _ h=>h)⟩
theorem lH {P:Program} {fn:Func} {R:Ending→World→Prop} {p:Tmp} {ty:TypeId} {tmps:Array Value} {w0:World} (h:fn.results = #[.cell p ty]) (cs:List Value) (d:TypeDesc) (hp:tmps.getD p undef = .pointer (some ⟨w0.heap.size,0,none⟩))
  (hu:P.underlying ty=some d) (hd:d.isRow=true) (hi:(P.info? ty).map (·.size)=some cs.length) (hR:R (.returned (.agg cs.toArray)) (w0.alloc (.cells cs.toArray ty))):bodyPost P fn R .ret ⟨tmps,[]⟩ (w0.alloc (.cells cs.toArray ty)):=by
 refine bodyPost_ret (v:=.agg cs.toArray) ?_ rfl hR
 have hp':tmps[p]?.getD undef = .pointer (some ⟨w0.heap.size,0,none⟩):=by simpa using hp
 simp[results,h,hp',asAddr,run_loadVar_mid (w0.alloc (.cells cs.toArray ty)) w0.heap.size 0 ty cs d (af (heap_alloc_new w0 _)) hu hd hi]
theorem iZ {P:Program} {fn:Func} {R:Ending→World→Prop} {p:Tmp} {ty t:TypeId} {tmps:Array Value} {W:World} {b:Nat} {cs:List Value} (hb:W.heap[b]?=some (.cells cs.toArray t)) (h:fn.results = #[.cell p ty]) (d:TypeDesc) (hp:tmps.getD p undef = .pointer (some ⟨b,0,none⟩))
  (hu:P.underlying ty=some d) (hd:d.isRow=true) (hi:(P.info? ty).map (·.size)=some cs.length) (hR:R (.returned (.agg cs.toArray)) W):bodyPost P fn R .ret ⟨tmps,[]⟩ W:=by
 refine bodyPost_ret (v:=.agg cs.toArray) ?_ rfl hR
 have hp':tmps[p]?.getD undef = .pointer (some ⟨b,0,none⟩):=by simpa using hp
 simp[results,h,hp',asAddr,run_loadVar_mid W b 0 ty cs d (af hb) hu hd hi]
theorem Tryz.cX:(Tryz.prog.info? 110).map (·.size)=some 5:=by kernel_rfl
def Dk:List Value:=[.string ⟨#[]⟩,.int .i64 0,.int .u64 0,.slice none 0 0,.int .i64 0]
theorem tD {w w':World} (news:List Value) (hf:Fr (fun _=>False) (w.alloc (.cells Dk.toArray 110)) w') (hl:news.length=5) (h1:∀ v∈news,v.oneCell'=true) :
  ∃ W4,(Instr.storeAt 110 (.pointer (some ⟨w.heap.size,0,none⟩)) (.agg news.toArray)).run Tryz.prog w' = .ok () W4∧W4.heap[w.heap.size]?=some (.cells news.toArray 110)∧Fr (fun _=>False) w W4∧Fr (fun k=>k=w.heap.size) w' W4:=by
 have hb:w'.heap[w.heap.size]?=some (.cells Dk.toArray 110):=(hf.block _ (by simp) (fun h=>h)).trans (heap_alloc_new w _)
 obtain⟨W4,h2,h3,h4⟩:=bz (P:=Tryz.prog) (ty:=110) Dk news hb (by rw[hl];rfl) (by rw[hl];exact Tryz.cX) h1
 exact⟨W4,h2,h3,((al w _).trans hf (fun _ _ h=>h)).trans h4 (fun g hg e=>by omega),h4⟩
theorem xe (nm:ByteArray) (k u wy r:Int) (xo:Option Addr) (n xc:Nat) (so:Bool) (w:World) :
  Calls Tryz.prog 89 #[.agg #[.string nm,.int .i64 k,.int .u64 u,.slice xo n xc,.int .i64 wy],.bool so,.int .i64 r] w fun e w'=>e = .returned (.agg #[.string nm,.int .i64 k,.int .u64 u,.slice xo n xc,.int .i64 (if so then r else wy)])∧Fr (fun _=>False) w w':=by
 cases so
 ·go_enter Tryz.func89,Tryz.ntmps89
  go_wp2_with fail
  exact lH rfl [.string nm,.int .i64 k,.int .u64 u,.slice xo n xc,.int .i64 wy] _ (by simp) Tryz.underlying110 rfl Tryz.cX ⟨rfl,(al w _).alloc _⟩
 ·go_enter Tryz.func89,Tryz.ntmps89
  go_wp2_with fail
  exact lH rfl [.string nm,.int .i64 k,.int .u64 u,.slice xo n xc,.int .i64 r] _ (by simp) Tryz.underlying110 rfl Tryz.cX ⟨rfl,(al w _).alloc _⟩
theorem qx (nm:ByteArray) (v:Nat) (hv:v<4294967296) (w:World) :
  Calls Tryz.prog 91 #[.string nm,.int .u32 (v:Nat)] w fun e w'=>e = .returned (.agg #[.string nm,.int .i64 4,.int .u64 (v:Nat),.slice none 0 0,.int .i64 0])∧Fr (fun _=>False) w w':=by
 have hc:IntKind.u64.wrap ((v:Nat):Int)=v:=by
  have e:((v:Nat):Int) % 18446744073709551616=v:=by omega
  simp[IntKind.wrap,IntKind.bits,IntKind.signed,e]
 go_enter Tryz.func91,Tryz.ntmps91
 go_wp2_with fail
 exact lH rfl [.string nm,.int .i64 4,.int .u64 (v:Nat),.slice none 0 0,.int .i64 0] _ (by simp) Tryz.underlying110 rfl Tryz.cX ⟨rfl,al w _⟩
theorem rJ (nm:ByteArray) (xo:Option Addr) (n xc:Nat) (lo hi:Int) (w:World) :
  Calls Tryz.prog 96 #[.string nm,.slice xo n xc,.int .i64 lo,.int .i64 hi] w fun e w'=>e = .returned (.agg #[.string nm,.int .i64 6,.int .u64 0,.slice xo n xc,.int .i64 (cu lo hi n:Nat)])∧Fr (fun _=>False) w w':=by
 by_cases h1:(n:Int)<lo <;> by_cases h2:hi<(n:Int)
 ·have ez:((cu lo hi n:Nat):Int)=2:=by unfold cu;rw[if_pos h2];rfl
  rw[ez]
  go_enter Tryz.func96,Tryz.ntmps96
  go_wp2_with fail
  exact iZ (b:=w.heap.size) (cs:=[.string nm,.int .i64 6,.int .u64 0,.slice xo n xc,.int .i64 2]) ((Below.heap_alloc _ _ _ (by simp)).trans (heap_alloc_new w _)) rfl _ (by simp) Tryz.underlying110 rfl Tryz.cX ⟨rfl,(al w _).alloc _⟩
 ·have ez:((cu lo hi n:Nat):Int)=4:=by unfold cu;rw[if_neg h2,if_pos h1];rfl
  rw[ez]
  go_enter Tryz.func96,Tryz.ntmps96
  go_wp2_with fail
  exact iZ (b:=w.heap.size) (cs:=[.string nm,.int .i64 6,.int .u64 0,.slice xo n xc,.int .i64 4]) ((Below.heap_alloc _ _ _ (by simp)).trans (heap_alloc_new w _)) rfl _ (by simp) Tryz.underlying110 rfl Tryz.cX ⟨rfl,(al w _).alloc _⟩
 ·have ez:((cu lo hi n:Nat):Int)=2:=by unfold cu;rw[if_pos h2];rfl
  rw[ez]
  go_enter Tryz.func96,Tryz.ntmps96
  go_wp2_with fail
  exact iZ (b:=w.heap.size) (cs:=[.string nm,.int .i64 6,.int .u64 0,.slice xo n xc,.int .i64 2]) ((Below.heap_alloc _ _ _ (by simp)).trans (heap_alloc_new w _)) rfl _ (by simp) Tryz.underlying110 rfl Tryz.cX ⟨rfl,(al w _).alloc _⟩
 ·have ez:((cu lo hi n:Nat):Int)=0:=by unfold cu;rw[if_neg h2,if_neg h1];rfl
  rw[ez]
  go_enter Tryz.func96,Tryz.ntmps96
  go_wp2_with fail
  exact iZ (b:=w.heap.size) (cs:=[.string nm,.int .i64 6,.int .u64 0,.slice xo n xc,.int .i64 0]) ((Below.heap_alloc _ _ _ (by simp)).trans (heap_alloc_new w _)) rfl _ (by simp) Tryz.underlying110 rfl Tryz.cX ⟨rfl,(al w _).alloc _⟩
theorem Tryz.sd (p:Addr) (w:World):(Instr.typeAssert (.iface 157 (.pointer (some p))) 20 157 true).run Tryz.prog w = .ok (.tuple #[.pointer (some p),.bool true]) w:=by kernel_rfl
theorem Tryz.vq (p:Addr) (w:World):(Instr.typeAssert (.iface 158 (.pointer (some p))) 20 158 true).run Tryz.prog w = .ok (.tuple #[.pointer (some p),.bool true]) w:=by kernel_rfl
theorem Tryz.jC (p:Addr) (w:World):(Instr.typeAssert (.iface 158 (.pointer (some p))) 20 157 true).run Tryz.prog w = .ok (.tuple #[.pointer none,.bool false]) w:=by kernel_rfl
theorem Tryz.wh (p:Addr) (w:World):(Instr.typeAssert (.iface 210 (.pointer (some p))) 20 210 true).run Tryz.prog w = .ok (.tuple #[.pointer (some p),.bool true]) w:=by kernel_rfl
theorem Tryz.j0 (p:Addr) (w:World):(Instr.typeAssert (.iface 210 (.pointer (some p))) 20 157 true).run Tryz.prog w = .ok (.tuple #[.pointer none,.bool false]) w:=by kernel_rfl
theorem Tryz.kF (p:Addr) (w:World):(Instr.typeAssert (.iface 210 (.pointer (some p))) 20 158 true).run Tryz.prog w = .ok (.tuple #[.pointer none,.bool false]) w:=by kernel_rfl
theorem Tryz.y7 (p:Addr) (w:World):(Instr.typeAssert (.iface 173 (.pointer (some p))) 20 173 true).run Tryz.prog w = .ok (.tuple #[.pointer (some p),.bool true]) w:=by kernel_rfl
theorem Tryz.kE (p:Addr) (w:World):(Instr.typeAssert (.iface 173 (.pointer (some p))) 20 157 true).run Tryz.prog w = .ok (.tuple #[.pointer none,.bool false]) w:=by kernel_rfl
theorem Tryz.kZ (p:Addr) (w:World):(Instr.typeAssert (.iface 173 (.pointer (some p))) 20 158 true).run Tryz.prog w = .ok (.tuple #[.pointer none,.bool false]) w:=by kernel_rfl
theorem Tryz.mH (p:Addr) (w:World):(Instr.typeAssert (.iface 173 (.pointer (some p))) 20 210 true).run Tryz.prog w = .ok (.tuple #[.pointer none,.bool false]) w:=by kernel_rfl
theorem Tryz.uV (p:Addr) (w:World):(Instr.typeAssert (.iface 213 (.pointer (some p))) 20 213 true).run Tryz.prog w = .ok (.tuple #[.pointer (some p),.bool true]) w:=by kernel_rfl
theorem Tryz.jy (p:Addr) (w:World):(Instr.typeAssert (.iface 213 (.pointer (some p))) 20 157 true).run Tryz.prog w = .ok (.tuple #[.pointer none,.bool false]) w:=by kernel_rfl
theorem Tryz.jZ (p:Addr) (w:World):(Instr.typeAssert (.iface 213 (.pointer (some p))) 20 158 true).run Tryz.prog w = .ok (.tuple #[.pointer none,.bool false]) w:=by kernel_rfl
theorem Tryz.kC (p:Addr) (w:World):(Instr.typeAssert (.iface 213 (.pointer (some p))) 20 210 true).run Tryz.prog w = .ok (.tuple #[.pointer none,.bool false]) w:=by kernel_rfl
theorem Tryz.mg (p:Addr) (w:World):(Instr.typeAssert (.iface 213 (.pointer (some p))) 20 173 true).run Tryz.prog w = .ok (.tuple #[.pointer none,.bool false]) w:=by kernel_rfl
theorem Tryz.wE (p:Addr) (w:World):(Instr.typeAssert (.iface 215 (.pointer (some p))) 20 215 true).run Tryz.prog w = .ok (.tuple #[.pointer (some p),.bool true]) w:=by kernel_rfl
theorem Tryz.j5 (p:Addr) (w:World):(Instr.typeAssert (.iface 215 (.pointer (some p))) 20 157 true).run Tryz.prog w = .ok (.tuple #[.pointer none,.bool false]) w:=by kernel_rfl
theorem Tryz.kA (p:Addr) (w:World):(Instr.typeAssert (.iface 215 (.pointer (some p))) 20 158 true).run Tryz.prog w = .ok (.tuple #[.pointer none,.bool false]) w:=by kernel_rfl
theorem Tryz.la (p:Addr) (w:World):(Instr.typeAssert (.iface 215 (.pointer (some p))) 20 210 true).run Tryz.prog w = .ok (.tuple #[.pointer none,.bool false]) w:=by kernel_rfl
theorem Tryz.mU (p:Addr) (w:World):(Instr.typeAssert (.iface 215 (.pointer (some p))) 20 173 true).run Tryz.prog w = .ok (.tuple #[.pointer none,.bool false]) w:=by kernel_rfl
theorem Tryz.kB (p:Addr) (w:World):(Instr.typeAssert (.iface 215 (.pointer (some p))) 20 213 true).run Tryz.prog w = .ok (.tuple #[.pointer none,.bool false]) w:=by kernel_rfl
theorem Tryz.tr (p:Addr) (w:World):(Instr.typeAssert (.iface 145 (.pointer (some p))) 20 145 true).run Tryz.prog w = .ok (.tuple #[.pointer (some p),.bool true]) w:=by kernel_rfl
theorem Tryz.iO (p:Addr) (w:World):(Instr.typeAssert (.iface 145 (.pointer (some p))) 20 157 true).run Tryz.prog w = .ok (.tuple #[.pointer none,.bool false]) w:=by kernel_rfl
theorem Tryz.je (p:Addr) (w:World):(Instr.typeAssert (.iface 145 (.pointer (some p))) 20 158 true).run Tryz.prog w = .ok (.tuple #[.pointer none,.bool false]) w:=by kernel_rfl
theorem Tryz.jU (p:Addr) (w:World):(Instr.typeAssert (.iface 145 (.pointer (some p))) 20 210 true).run Tryz.prog w = .ok (.tuple #[.pointer none,.bool false]) w:=by kernel_rfl
theorem Tryz.kD (p:Addr) (w:World):(Instr.typeAssert (.iface 145 (.pointer (some p))) 20 173 true).run Tryz.prog w = .ok (.tuple #[.pointer none,.bool false]) w:=by kernel_rfl
theorem Tryz.jk (p:Addr) (w:World):(Instr.typeAssert (.iface 145 (.pointer (some p))) 20 213 true).run Tryz.prog w = .ok (.tuple #[.pointer none,.bool false]) w:=by kernel_rfl
theorem Tryz.jK (p:Addr) (w:World):(Instr.typeAssert (.iface 145 (.pointer (some p))) 20 215 true).run Tryz.prog w = .ok (.tuple #[.pointer none,.bool false]) w:=by kernel_rfl
theorem CS.lY {c:CS} {n:Nat} (h:c.room (n+2)) (v:Nat × List Nat):(c.dE v).1.room n:=CS.lu (CS.aF h _ _ _) _ _
def CS.cR (c:CS) (v:(Nat × List Nat) × Nat × List Nat):CS × (Nat × List Nat) × Nat × List Nat:=
 ((((c.dE v.1).1.bL fQ [] v.2.1).1.eR bW 32768 [fun v=>cu 0 32768 v.length] v.2.2).1,(c.dE v.1).2,((c.dE v.1).1.bL fQ [] v.2.1).2,(((c.dE v.1).1.bL fQ [] v.2.1).1.eR bW 32768 [fun v=>cu 0 32768 v.length] v.2.2).2)
theorem ss (c:CS) (size key:Nat) (root sig:List Nat) (x y:Value) (cb b g o:Nat) (F:Nat→Prop) (E:Nat→Addr) (w:World) (h:Cd w cb b F c E) (hp0:w.cell? ⟨g,o,none⟩=some (.int .u32 (size:Nat))) (hp1:w.cell? ⟨g,o+1,none⟩=some x) (hp2:w.cell? ⟨g,o+2,none⟩=some (.int .u32 (key:Nat))) (hp3:w.cell? ⟨g,o+3,none⟩=some y) (hB:n5 w x root F g) (hB2:n5 w y sig F g) (hL:∀ i,Loc w cb F g i) (hsz:size<4294967296) (hkey:key<4294967296) (hroom:c.room 4) :
  Calls Tryz.prog 112 #[.pointer (some ⟨cb,0,none⟩),.pointer (some ⟨g,o,none⟩)] w fun e w'=>e = .returned (.tuple #[])∧∃ F',Cd w' cb b F' (c.cR ((size,root),key,sig)).1 E∧w'.cell? ⟨g,o,none⟩=some (.int .u32 ((c.cR ((size,root),key,sig)).2.1.1:Nat))∧w'.cell? ⟨g,o+2,none⟩=some (.int .u32 ((c.cR ((size,root),key,sig)).2.2.1:Nat))∧∃ x' y',w'.cell? ⟨g,o+1,none⟩=some x'∧w'.cell? ⟨g,o+3,none⟩=some y'∧BO w w' c x' (c.cR ((size,root),key,sig)).2.1.2 F' g∧BO w w' c y' (c.cR ((size,root),key,sig)).2.2.2 F' g∧ar w w' F F' (aC g o 4):=by
 have H:=ae (And.intro h (And.intro hB2 hL))
 have HH:=ae (qa c size root x cb b g o F E w h hp0 hp1 hB hL hsz (by simp only[CS.room] at *;omega))
 have hgl:=(hL o).lt
 have hgF:=(hL o).nF
 clear h hB hB2 hL
 go_enter Tryz.func112,Tryz.ntmps112
 go_wp2_with fail
 refine(aa HH).mono ?_
 rintro e w1 ⟨rfl,F1,hC1,hc1,x1,hx1,ho1,hs1⟩
 have hgl1:=Nat.lt_of_lt_of_le hgl hs1.size
 have hgF1:=hs1.nF hgl hgF
 have hp2':w1.cell? ⟨g,o+2,none⟩=some (.int .u32 (key:Nat)):=(hs1.oth g (o+2) hgl hgF (fun h=>by have:=h.2;omega)).trans hp2
 have hp3':w1.cell? ⟨g,o+3,none⟩=some y:=(hs1.oth g (o+3) hgl hgF (fun h=>by have:=h.2;omega)).trans hp3
 have hB1:=(aa H).2.1.aP hs1 (fun k i _ h=>h.1)
 have hr1:(c.dE (size,root)).1.room 2:=CS.lY (by simpa using hroom) _
 have HN:=ae (bJ (c.dE (size,root)).1 fQ [] key cb b g (o+2) F1 E (.slice none 0 0) w1 hC1 hp2' (((aa H).2.2 (o+2)).aP hs1) hkey (ij.nil _ w1 F1 g E) (by simp only[CS.room] at *;omega))
 have H1:=ae (And.intro hs1 (And.intro hc1 (And.intro hC1 (And.intro hB1 (And.intro hx1 (And.intro ho1 (And.intro hp3' (And.intro hgF1 hr1))))))))
 clear hs1 hc1 hC1 hB1 hx1 ho1 hp3' hgF1 hr1
 go_wp2_with fail
 refine(aa HN).mono ?_
 rintro e w2 ⟨rfl,F2,hC2,hc2,hs2⟩
 obtain⟨hs1,hc1,hC1,hB1,hx1,ho1,hp3',hgF1,hr1⟩:=aa H1
 have hgl2:=Nat.lt_of_lt_of_le hgl1 hs2.size
 have hgF2:=hs2.nF hgl1 hgF1
 have hP2:∀ k i,k<w1.heap.size→(k=g∧i=o+2)→k=g:=fun k i _ h=>h.1
 have hB2:=hB1.aP hs2 hP2
 have hp3'':w2.cell? ⟨g,o+3,none⟩=some y:=(hs2.oth g (o+3) hgl1 hgF1 (fun h=>by omega)).trans hp3'
 have hr2:=CS.aF (n:=1) hr1 fQ [] key
 have HR:=ae (uu ((c.dE (size,root)).1.bL fQ [] key).1 bW 0 32768 [] y sig cb b g (o+3) F2 E (.slice none 0 0) w2 hC2 hp3'' hB2.bv ((((aa H).2.2 (o+3)).aP hs1).aP hs2) hB2.len (by decide) (ij.nil _ w2 F2 g E) (by decide) hr2)
 have hx2:w2.cell? ⟨g,o+1,none⟩=some x1:=(hs2.oth g (o+1) hgl1 hgF1 (fun h=>by omega)).trans hx1
 have hz2:w2.cell? ⟨g,o,none⟩=some (.int .u32 ((c.dE (size,root)).2.1:Nat)):=(hs2.oth g o hgl1 hgF1 (fun h=>by omega)).trans hc1
 have ho2:=ho1.aP hs2 hP2
 have hs02:ar w w2 F F2 (aC g o 4):=(hs1.mono (fun k j _ h=>⟨h.1,h.2.1,by have:=h.2.2;omega⟩)).trans hs2 (fun k j _ h=>⟨h.1,by omega,by omega⟩)
 have H2:=ae (And.intro hs02 (And.intro hc2 (And.intro hC2 (And.intro hB2 (And.intro hx2 (And.intro ho2 (And.intro hz2 (And.intro hgF2 hgl2))))))))
 clear hs1 hc1 hC1 hB1 hx1 ho1 hp3' hgF1 hr1 hs2 hc2 hC2 hB2 hx2 ho2 hp3'' hgF2 hr2 hP2 hs02 hz2 H1 HN HH
 go_wp2_with fail
 refine(aa HR).mono ?_
 rintro e w3 ⟨rfl,F3,y3,hC3,hy3,hyo,hyn,hs3⟩
 obtain⟨hs02,hc2,hC2,hB2,hx2,ho2,hz2,hgF2,hgl2⟩:=aa H2
 have hbo:=(wC hC2 hB2 hgl2 hs3 hyo hyn).mode (w0:=w) (c:=c) hs02.size (by rintro q rfl;exact⟨_,rfl⟩)
 have H3:=ae (And.intro hC3 (And.intro ((hs3.oth g o hgl2 hgF2 (fun h=>by omega)).trans hz2) (And.intro ((hs3.oth g (o+2) hgl2 hgF2 (fun h=>by omega)).trans hc2) (And.intro ((hs3.oth g (o+1) hgl2 hgF2 (fun h=>by omega)).trans hx2) (And.intro hy3 (And.intro (ho2.aP hs3 (fun k j _ h=>h.1)) (And.intro hbo (hs02.trans hs3 (fun k j _ h=>⟨h.1,by omega,by omega⟩)))))))))
 clear hC3 hy3 hyo hyn hs3 hs02 hc2 hC2 hB2 hx2 ho2 hz2 hgF2 hgl2 hbo
 go_wp2_with fail
 go_end0
 obtain⟨a1,a2,a3,a4,a5,a6,a7,a8⟩:=aa H3
 exact⟨rfl,F3,a1,a2,a3,x1,y3,a4,a5,a6,a7,a8⟩
theorem cf (x:Value) (l:List Nat) (w:World) (hx:Src w x l) (hl:l.length≤8) :
  Calls Tryz.prog 146 #[x] w fun e w'=>e = .returned (.int .u64 (val l))∧w'=w:=by
 have HX:=ae hx
 obtain⟨xo,xc,rfl⟩:=hx.form
 clear hx
 go_enter Tryz.func146,Tryz.ntmps146
 go_wp2_with fail
 go_loop [3,4] (fun x i=>∃ k:Nat,k≤l.length∧i = .int .i64 k∧x = .int .u64 (val (l.take k))) (fun _ i=>l.length - (intOf i).toNat)
 case atStart=>exact⟨0,Nat.zero_le _,rfl,rfl⟩
 case round =>
  obtain⟨k,hk,rfl,rfl⟩:=hrel
  by_cases hlt:k<l.length
  ·obtain⟨g,o,rfl,hcell⟩:=pB (aa HX) k hlt
   have hv:=gD (l.take k)
   have hv2:val (l.take k)<72057594037927936:=by
    refine Nat.lt_of_lt_of_le hv (Nat.le_trans (Nat.pow_le_pow_right (by decide) (show(l.take k).length≤7 by simp;omega)) (by decide))
   have HE:=ae (rj (l.take k) l[k])
   generalize val (l.take k)=y at *
   go_wp2
   refine⟨⟨k+1,by omega,by go_num,?_⟩,by simp[intOf];omega⟩
   rw[List.take_add_one,List.getElem?_eq_getElem hlt,Option.toList_some,aa HE]
   congr 1
  ·go_wp2
   go_ret
   rw[List.take_of_length_le (by omega)]
   exact⟨rfl,rfl⟩
theorem AF (x:Nat):x &&& 2139095040=x / 8388608 % 256 * 8388608:=by
 have e1:(2139095040:Nat)=(2 ^ 8 - 1) * 2 ^ 23:=by decide
 have e2:x / 8388608 % 256 * 8388608=x / 2 ^ 23 % 2 ^ 8 * 2 ^ 23:=rfl
 rw[e1,e2]
 apply Nat.eq_of_testBit_eq
 intro i
 rw[Nat.testBit_and,Nat.testBit_mul_two_pow,Nat.testBit_mul_two_pow,Nat.testBit_two_pow_sub_one,Nat.testBit_mod_two_pow,Nat.testBit_div_two_pow]
 by_cases h:23≤i
 ·rw[show i - 23+23=i from by omega]
  simp[h,Bool.and_comm]
 ·simp[h]
theorem uT (x:Nat):bM x=((x / 8388608 % 256 != 255) && (x != 2147483648)):=by
 unfold bM
 rw[AF,Bool.eq_iff_iff]
 simp
 omega
theorem lX (x:Nat) (w:World) (hx:x<18446744073709551616):Calls Tryz.prog 121 #[.int .u64 x] w fun e w'=>e = .returned (.bool (bM x))∧w'=w:=by
 rw[uT]
 have hw:IntKind.u64.wrap ((x:Int) / 8388608)=((x / 8388608:Nat):Int):=by rw[IntKind.wrap_u64];omega
 by_cases h:(x:Int) / 8388608 % 256=255
 ·have h2:x / 8388608 % 256=255:=by omega
  go_enter Tryz.func121,Tryz.ntmps121
  go_wp2
  all_goals
   go_ret
   refine⟨congrArg (fun b=>Ending.returned (.bool b)) ?_,rfl⟩
   simp[h2]
 ·have h2:¬ x / 8388608 % 256=255:=by omega
  have e2:((x:Int) != 2147483648)=(x != 2147483648):=by rw[Bool.eq_iff_iff];simp;omega
  have e1:((x:Int) / 8388608 % 256 != 255)=true:=by simp[h]
  go_enter Tryz.func121,Tryz.ntmps121
  go_wp2
  all_goals
   go_ret
   refine⟨congrArg (fun b=>Ending.returned (.bool b)) ?_,rfl⟩
   simp[h2]
def aV (xo:Option Addr) (len xc:Nat) (place last:Int) (nm fw:ByteArray) (fa fy:Int):Value:=
 .agg #[.slice xo len xc,.int .i64 place,.int .i64 last,.string nm,.string fw,.int .i64 fa,.int .i64 fy]
theorem wP (xo:Option Addr) (len xc:Nat) (place last fa fy:Int) (nm fw s:ByteArray) (u:Nat) (n m:Int) (w:World) :
  Calls Tryz.prog 125 #[aV xo len xc place last nm fw fa fy,.agg #[.int .i64 10,.int .u64 u,.string s,.int .i64 n,.int .i64 m]] w fun e w'=>e = .returned (.tuple #[aV xo len xc place last s fw fa fy,.int .u64 0,.slice none 0 0])∧Fr (fun _=>False) w w':=by
 unfold aV
 go_enter Tryz.func125,Tryz.ntmps125
 go_wp2_with fail
 exact bodyPost_ret (v:=.tuple #[aV xo len xc place last s fw fa fy,.int .u64 0,.slice none 0 0]) (by simp[results,Tryz.results125,go_sem,aV]) rfl ⟨rfl,aI w _ _ _⟩
theorem qn (xo:Option Addr) (len xc:Nat) (place last fa fy:Int) (nm fw s:ByteArray) (k:Int) (u:Nat) (n m:Int) (w:World) (h10:k≠10) (hy:fy≠0) :
  Calls Tryz.prog 125 #[aV xo len xc place last nm fw fa fy,.agg #[.int .i64 k,.int .u64 u,.string s,.int .i64 n,.int .i64 m]] w fun e w'=>e = .returned (.tuple #[aV xo len xc place last nm fw fa fy,.int .u64 0,.slice none 0 0])∧Fr (fun _=>False) w w':=by
 have b10:(k == 10)=false:=by simp[h10]
 have by0:(fy != 0)=true:=by rw[bne_iff_ne];exact hy
 clear h10 hy
 unfold aV
 go_enter Tryz.func125,Tryz.ntmps125
 go_wp2_with fail
 exact bodyPost_ret (v:=.tuple #[aV xo len xc place last nm fw fa fy,.int .u64 0,.slice none 0 0]) (by simp[results,Tryz.results125,go_sem,aV]) rfl ⟨rfl,aI w _ _ _⟩
theorem wW (xo:Option Addr) (len xc:Nat) (place last fa:Int) (nm fw s:ByteArray) (u:Nat) (m:Int) (w:World) :
  Calls Tryz.prog 125 #[aV xo len xc place last nm fw fa 0,.agg #[.int .i64 9,.int .u64 u,.string s,.int .i64 0,.int .i64 m]] w fun e w'=>e = .returned (.tuple #[aV xo len xc place last nm fw fa 0,.int .u64 0,.slice none 0 0])∧Fr (fun _=>False) w w':=by
 unfold aV
 go_enter Tryz.func125,Tryz.ntmps125
 go_wp2_with fail
 exact bodyPost_ret (v:=.tuple #[aV xo len xc place last nm fw fa 0,.int .u64 0,.slice none 0 0]) (by simp[results,Tryz.results125,go_sem,aV]) rfl ⟨rfl,aI w _ _ _⟩
theorem zT (xo:Option Addr) (len xc:Nat) (place last fa:Int) (nm fw s:ByteArray) (u:Nat) (n m:Int) (w:World) (hn:n≠0) :
  Calls Tryz.prog 125 #[aV xo len xc place last nm fw fa 0,.agg #[.int .i64 9,.int .u64 u,.string s,.int .i64 n,.int .i64 m]] w fun e w'=>e = .returned (.tuple #[aV xo len xc last last nm nm last n,.int .u64 0,.slice none 0 0])∧Fr (fun _=>False) w w':=by
 have bn:(n != 0)=true:=by rw[bne_iff_ne];exact hn
 clear hn
 unfold aV
 go_enter Tryz.func125,Tryz.ntmps125
 go_wp2_with fail
 exact bodyPost_ret (v:=.tuple #[aV xo len xc last last nm nm last n,.int .u64 0,.slice none 0 0]) (by simp[results,Tryz.results125,go_sem,aV]) rfl ⟨rfl,aI w _ _ _⟩
theorem ni (xo:Option Addr) (len xc place:Nat) (last fa:Int) (nm fw s:ByteArray) (u:Nat) (n m:Int) (w:World) (hp:place≤len) (hs:len<1+place) :
  Calls Tryz.prog 125 #[aV xo len xc place last nm fw fa 0,.agg #[.int .i64 1,.int .u64 u,.string s,.int .i64 n,.int .i64 m]] w fun e w'=>e = .returned (.tuple #[aV xo len xc place last nm nm place 1,.int .u64 0,.slice none 0 0])∧Fr (fun _=>False) w w':=by
 have hw:IntKind.i64.wrap ((len:Int) - place)=(len:Int) - place:=by rw[IntKind.wrap_i64];omega
 have hd:decide ((len:Int) - place<1)=true:=by simp;omega
 unfold aV
 go_enter Tryz.func125,Tryz.ntmps125
 go_wp2_with fail
 exact bodyPost_ret (v:=.tuple #[aV xo len xc place last nm nm place 1,.int .u64 0,.slice none 0 0]) (by simp[results,Tryz.results125,go_sem,aV]) rfl ⟨rfl,aI w _ _ _⟩
theorem mV (xo:Option Addr) (len xc place:Nat) (last fa:Int) (nm fw s:ByteArray) (u:Nat) (n m:Int) (w:World) (hp:place≤len) (hs:len<2+place) :
  Calls Tryz.prog 125 #[aV xo len xc place last nm fw fa 0,.agg #[.int .i64 2,.int .u64 u,.string s,.int .i64 n,.int .i64 m]] w fun e w'=>e = .returned (.tuple #[aV xo len xc place last nm nm place 1,.int .u64 0,.slice none 0 0])∧Fr (fun _=>False) w w':=by
 have hw:IntKind.i64.wrap ((len:Int) - place)=(len:Int) - place:=by rw[IntKind.wrap_i64];omega
 have hd:decide ((len:Int) - place<2)=true:=by simp;omega
 unfold aV
 go_enter Tryz.func125,Tryz.ntmps125
 go_wp2_with fail
 exact bodyPost_ret (v:=.tuple #[aV xo len xc place last nm nm place 1,.int .u64 0,.slice none 0 0]) (by simp[results,Tryz.results125,go_sem,aV]) rfl ⟨rfl,aI w _ _ _⟩
theorem m7 (xo:Option Addr) (len xc place:Nat) (last fa:Int) (nm fw s:ByteArray) (u:Nat) (n m:Int) (w:World) (hp:place≤len) (hs:len<4+place) :
  Calls Tryz.prog 125 #[aV xo len xc place last nm fw fa 0,.agg #[.int .i64 4,.int .u64 u,.string s,.int .i64 n,.int .i64 m]] w fun e w'=>e = .returned (.tuple #[aV xo len xc place last nm nm place 1,.int .u64 0,.slice none 0 0])∧Fr (fun _=>False) w w':=by
 have hw:IntKind.i64.wrap ((len:Int) - place)=(len:Int) - place:=by rw[IntKind.wrap_i64];omega
 have hd:decide ((len:Int) - place<4)=true:=by simp;omega
 unfold aV
 go_enter Tryz.func125,Tryz.ntmps125
 go_wp2_with fail
 exact bodyPost_ret (v:=.tuple #[aV xo len xc place last nm nm place 1,.int .u64 0,.slice none 0 0]) (by simp[results,Tryz.results125,go_sem,aV]) rfl ⟨rfl,aI w _ _ _⟩
theorem my (xo:Option Addr) (len xc place:Nat) (last fa:Int) (nm fw s:ByteArray) (u:Nat) (n m:Int) (w:World) (hp:place≤len) (hs:len<8+place) :
  Calls Tryz.prog 125 #[aV xo len xc place last nm fw fa 0,.agg #[.int .i64 8,.int .u64 u,.string s,.int .i64 n,.int .i64 m]] w fun e w'=>e = .returned (.tuple #[aV xo len xc place last nm nm place 1,.int .u64 0,.slice none 0 0])∧Fr (fun _=>False) w w':=by
 have hw:IntKind.i64.wrap ((len:Int) - place)=(len:Int) - place:=by rw[IntKind.wrap_i64];omega
 have hd:decide ((len:Int) - place<8)=true:=by simp;omega
 unfold aV
 go_enter Tryz.func125,Tryz.ntmps125
 go_wp2_with fail
 exact bodyPost_ret (v:=.tuple #[aV xo len xc place last nm nm place 1,.int .u64 0,.slice none 0 0]) (by simp[results,Tryz.results125,go_sem,aV]) rfl ⟨rfl,aI w _ _ _⟩
theorem mv (xo:Option Addr) (len xc place:Nat) (last fa:Int) (nm fw s:ByteArray) (u:Nat) (n m:Int) (w:World) (hp:place≤len) (hs:len<4+place) :
  Calls Tryz.prog 125 #[aV xo len xc place last nm fw fa 0,.agg #[.int .i64 5,.int .u64 u,.string s,.int .i64 n,.int .i64 m]] w fun e w'=>e = .returned (.tuple #[aV xo len xc place last nm nm place 1,.int .u64 0,.slice none 0 0])∧Fr (fun _=>False) w w':=by
 have hw:IntKind.i64.wrap ((len:Int) - place)=(len:Int) - place:=by rw[IntKind.wrap_i64];omega
 have hd:decide ((len:Int) - place<4)=true:=by simp;omega
 unfold aV
 go_enter Tryz.func125,Tryz.ntmps125
 go_wp2_with fail
 exact bodyPost_ret (v:=.tuple #[aV xo len xc place last nm nm place 1,.int .u64 0,.slice none 0 0]) (by simp[results,Tryz.results125,go_sem,aV]) rfl ⟨rfl,aI w _ _ _⟩
theorem mK (xo:Option Addr) (len xc place:Nat) (last fa:Int) (nm fw s:ByteArray) (u:Nat) (n m:Int) (w:World) (hp:place≤len) (hs:len<4+place) :
  Calls Tryz.prog 125 #[aV xo len xc place last nm fw fa 0,.agg #[.int .i64 6,.int .u64 u,.string s,.int .i64 n,.int .i64 m]] w fun e w'=>e = .returned (.tuple #[aV xo len xc place last nm nm place 1,.int .u64 0,.slice none 0 0])∧Fr (fun _=>False) w w':=by
 have hw:IntKind.i64.wrap ((len:Int) - place)=(len:Int) - place:=by rw[IntKind.wrap_i64];omega
 have hd:decide ((len:Int) - place<4)=true:=by simp;omega
 unfold aV
 go_enter Tryz.func125,Tryz.ntmps125
 go_wp2_with fail
 exact bodyPost_ret (v:=.tuple #[aV xo len xc place last nm nm place 1,.int .u64 0,.slice none 0 0]) (by simp[results,Tryz.results125,go_sem,aV]) rfl ⟨rfl,aI w _ _ _⟩
theorem nr (xo:Option Addr) (len xc place:Nat) (last fa:Int) (nm fw s:ByteArray) (u:Nat) (n m:Int) (w:World) (hp:place≤len) (hs:len<4+place) :
  Calls Tryz.prog 125 #[aV xo len xc place last nm fw fa 0,.agg #[.int .i64 7,.int .u64 u,.string s,.int .i64 n,.int .i64 m]] w fun e w'=>e = .returned (.tuple #[aV xo len xc place last nm nm place 1,.int .u64 0,.slice none 0 0])∧Fr (fun _=>False) w w':=by
 have hw:IntKind.i64.wrap ((len:Int) - place)=(len:Int) - place:=by rw[IntKind.wrap_i64];omega
 have hd:decide ((len:Int) - place<4)=true:=by simp;omega
 unfold aV
 go_enter Tryz.func125,Tryz.ntmps125
 go_wp2_with fail
 exact bodyPost_ret (v:=.tuple #[aV xo len xc place last nm nm place 1,.int .u64 0,.slice none 0 0]) (by simp[results,Tryz.results125,go_sem,aV]) rfl ⟨rfl,aI w _ _ _⟩
theorem eS {w:World} {xo:Option Addr} {all:List Nat} {xc place n:Nat} (hx:Src w (.slice xo all.length xc) all) (hlc:all.length≤xc) (hs:n+place≤all.length) (hn:0<n):Src w (.slice (Option.map (fun x=>x.add place) xo) n (xc - place)) ((all.drop place).take n):=by
 have h:=hx.cut place n hs hlc
 rw[if_neg (by omega)] at h
 exact h
theorem sZ (xo:Option Addr) (all:List Nat) (xc place:Nat) (last fa:Int) (nm fw s:ByteArray) (u:Nat) (n m:Int) (w:World) (hx:Src w (.slice xo all.length xc) all) (hlc:all.length≤xc) (hl:all.length≤140737488355328) (hs:1+place≤all.length) :
  Calls Tryz.prog 125 #[aV xo all.length xc place last nm fw fa 0,.agg #[.int .i64 1,.int .u64 u,.string s,.int .i64 n,.int .i64 m]] w fun e w'=>e = .returned (.tuple #[aV xo all.length xc ((place+1:Nat):Int) place nm fw fa 0,.int .u64 (val ((all.drop place).take 1)),.slice none 0 0])∧Fr (fun _=>False) w w':=by
 have hw:IntKind.i64.wrap ((all.length:Int) - place)=(all.length:Int) - place:=by rw[IntKind.wrap_i64];omega
 have hd:decide ((all.length:Int) - place<1)=false:=by simp;omega
 have hcut:=eS (n:=1) hx hlc hs (by decide)
 have hlen:((all.drop place).take 1).length≤8:=by simp;omega
 generalize (all.drop place).take 1=l at *
 have HX:=ae (And.intro hcut hlen)
 clear hx hcut hlen
 generalize all.length=len at *
 unfold aV
 go_enter Tryz.func125,Tryz.ntmps125
 go_wp2_with fail
 refine(cf _ l _ ((aa HX).1.fr (aI w _ _ _) (fun _ _ _ _ _ h=>h)) (aa HX).2).mono ?_
 rintro e w' ⟨rfl,rfl⟩
 go_wp2_with fail
 exact bodyPost_ret (v:=.tuple #[aV xo len xc ((place+1:Nat):Int) place nm fw fa 0,.int .u64 (val l),.slice none 0 0]) (by simp[results,Tryz.results125,go_sem,aV]) rfl ⟨rfl,aI w _ _ _⟩
theorem rI (xo:Option Addr) (all:List Nat) (xc place:Nat) (last fa:Int) (nm fw s:ByteArray) (u:Nat) (n m:Int) (w:World) (hx:Src w (.slice xo all.length xc) all) (hlc:all.length≤xc) (hl:all.length≤140737488355328) (hs:2+place≤all.length) :
  Calls Tryz.prog 125 #[aV xo all.length xc place last nm fw fa 0,.agg #[.int .i64 2,.int .u64 u,.string s,.int .i64 n,.int .i64 m]] w fun e w'=>e = .returned (.tuple #[aV xo all.length xc ((place+2:Nat):Int) place nm fw fa 0,.int .u64 (val ((all.drop place).take 2)),.slice none 0 0])∧Fr (fun _=>False) w w':=by
 have hw:IntKind.i64.wrap ((all.length:Int) - place)=(all.length:Int) - place:=by rw[IntKind.wrap_i64];omega
 have hd:decide ((all.length:Int) - place<2)=false:=by simp;omega
 have hcut:=eS (n:=2) hx hlc hs (by decide)
 have hlen:((all.drop place).take 2).length≤8:=by simp;omega
 generalize (all.drop place).take 2=l at *
 have HX:=ae (And.intro hcut hlen)
 clear hx hcut hlen
 generalize all.length=len at *
 unfold aV
 go_enter Tryz.func125,Tryz.ntmps125
 go_wp2_with fail
 refine(cf _ l _ ((aa HX).1.fr (aI w _ _ _) (fun _ _ _ _ _ h=>h)) (aa HX).2).mono ?_
 rintro e w' ⟨rfl,rfl⟩
 go_wp2_with fail
 exact bodyPost_ret (v:=.tuple #[aV xo len xc ((place+2:Nat):Int) place nm fw fa 0,.int .u64 (val l),.slice none 0 0]) (by simp[results,Tryz.results125,go_sem,aV]) rfl ⟨rfl,aI w _ _ _⟩
theorem tL (xo:Option Addr) (all:List Nat) (xc place:Nat) (last fa:Int) (nm fw s:ByteArray) (u:Nat) (n m:Int) (w:World) (hx:Src w (.slice xo all.length xc) all) (hlc:all.length≤xc) (hl:all.length≤140737488355328) (hs:4+place≤all.length) :
  Calls Tryz.prog 125 #[aV xo all.length xc place last nm fw fa 0,.agg #[.int .i64 4,.int .u64 u,.string s,.int .i64 n,.int .i64 m]] w fun e w'=>e = .returned (.tuple #[aV xo all.length xc ((place+4:Nat):Int) place nm fw fa 0,.int .u64 (val ((all.drop place).take 4)),.slice none 0 0])∧Fr (fun _=>False) w w':=by
 have hw:IntKind.i64.wrap ((all.length:Int) - place)=(all.length:Int) - place:=by rw[IntKind.wrap_i64];omega
 have hd:decide ((all.length:Int) - place<4)=false:=by simp;omega
 have hcut:=eS (n:=4) hx hlc hs (by decide)
 have hlen:((all.drop place).take 4).length≤8:=by simp;omega
 generalize (all.drop place).take 4=l at *
 have HX:=ae (And.intro hcut hlen)
 clear hx hcut hlen
 generalize all.length=len at *
 unfold aV
 go_enter Tryz.func125,Tryz.ntmps125
 go_wp2_with fail
 refine(cf _ l _ ((aa HX).1.fr (aI w _ _ _) (fun _ _ _ _ _ h=>h)) (aa HX).2).mono ?_
 rintro e w' ⟨rfl,rfl⟩
 go_wp2_with fail
 exact bodyPost_ret (v:=.tuple #[aV xo len xc ((place+4:Nat):Int) place nm fw fa 0,.int .u64 (val l),.slice none 0 0]) (by simp[results,Tryz.results125,go_sem,aV]) rfl ⟨rfl,aI w _ _ _⟩
theorem tk (xo:Option Addr) (all:List Nat) (xc place:Nat) (last fa:Int) (nm fw s:ByteArray) (u:Nat) (n m:Int) (w:World) (hx:Src w (.slice xo all.length xc) all) (hlc:all.length≤xc) (hl:all.length≤140737488355328) (hs:8+place≤all.length) :
  Calls Tryz.prog 125 #[aV xo all.length xc place last nm fw fa 0,.agg #[.int .i64 8,.int .u64 u,.string s,.int .i64 n,.int .i64 m]] w fun e w'=>e = .returned (.tuple #[aV xo all.length xc ((place+8:Nat):Int) place nm fw fa 0,.int .u64 (val ((all.drop place).take 8)),.slice none 0 0])∧Fr (fun _=>False) w w':=by
 have hw:IntKind.i64.wrap ((all.length:Int) - place)=(all.length:Int) - place:=by rw[IntKind.wrap_i64];omega
 have hd:decide ((all.length:Int) - place<8)=false:=by simp;omega
 have hcut:=eS (n:=8) hx hlc hs (by decide)
 have hlen:((all.drop place).take 8).length≤8:=by simp;omega
 generalize (all.drop place).take 8=l at *
 have HX:=ae (And.intro hcut hlen)
 clear hx hcut hlen
 generalize all.length=len at *
 unfold aV
 go_enter Tryz.func125,Tryz.ntmps125
 go_wp2_with fail
 refine(cf _ l _ ((aa HX).1.fr (aI w _ _ _) (fun _ _ _ _ _ h=>h)) (aa HX).2).mono ?_
 rintro e w' ⟨rfl,rfl⟩
 go_wp2_with fail
 exact bodyPost_ret (v:=.tuple #[aV xo len xc ((place+8:Nat):Int) place nm fw fa 0,.int .u64 (val l),.slice none 0 0]) (by simp[results,Tryz.results125,go_sem,aV]) rfl ⟨rfl,aI w _ _ _⟩
theorem ui (all:List Nat) (place:Nat):val ((all.drop place).take 4)<4294967296:=by
 have h1:=gD ((all.drop place).take 4)
 have h2:((all.drop place).take 4).length≤4:=by simp;omega
 exact Nat.lt_of_lt_of_le h1 (Nat.le_trans (Nat.pow_le_pow_right (by decide) h2) (by decide))
theorem sJ (xo:Option Addr) (all:List Nat) (xc place:Nat) (last fa:Int) (nm fw s:ByteArray) (u:Nat) (n m:Int) (w:World) (hx:Src w (.slice xo all.length xc) all) (hlc:all.length≤xc) (hl:all.length≤140737488355328) (hs:4+place≤all.length) (hq:bM (val ((all.drop place).take 4))=true) :
  Calls Tryz.prog 125 #[aV xo all.length xc place last nm fw fa 0,.agg #[.int .i64 5,.int .u64 u,.string s,.int .i64 n,.int .i64 m]] w fun e w'=>e = .returned (.tuple #[aV xo all.length xc ((place+4:Nat):Int) place nm fw fa 0,.int .u64 (val ((all.drop place).take 4)),.slice none 0 0])∧Fr (fun _=>False) w w':=by
 have hw:IntKind.i64.wrap ((all.length:Int) - place)=(all.length:Int) - place:=by rw[IntKind.wrap_i64];omega
 have hd:decide ((all.length:Int) - place<4)=false:=by simp;omega
 have hcut:=eS (n:=4) hx hlc hs (by decide)
 have hlen:((all.drop place).take 4).length≤8:=by simp;omega
 have hv:=ui all place
 generalize (all.drop place).take 4=l at *
 have HX:=ae (And.intro hcut (And.intro hlen (And.intro hq hv)))
 clear hx hcut hlen hq
 generalize all.length=len at *
 unfold aV
 go_enter Tryz.func125,Tryz.ntmps125
 go_wp2_with fail
 refine(cf _ l _ ((aa HX).1.fr (aI w _ _ _) (fun _ _ _ _ _ h=>h)) (aa HX).2.1).mono ?_
 rintro e w' ⟨rfl,rfl⟩
 go_wp2_with fail
 refine(lX (val l) _ (by omega)).mono ?_
 rintro e w' ⟨rfl,rfl⟩
 rw[(aa HX).2.2.1]
 go_wp2_with fail
 exact bodyPost_ret (v:=.tuple #[aV xo len xc ((place+4:Nat):Int) place nm fw fa 0,.int .u64 (val l),.slice none 0 0]) (by simp[results,Tryz.results125,go_sem,aV]) rfl ⟨rfl,aI w _ _ _⟩
theorem pW (xo:Option Addr) (all:List Nat) (xc place:Nat) (last fa:Int) (nm fw s:ByteArray) (u:Nat) (n m:Int) (w:World) (hx:Src w (.slice xo all.length xc) all) (hlc:all.length≤xc) (hl:all.length≤140737488355328) (hs:4+place≤all.length) (hq:bM (val ((all.drop place).take 4))=false) :
  Calls Tryz.prog 125 #[aV xo all.length xc place last nm fw fa 0,.agg #[.int .i64 5,.int .u64 u,.string s,.int .i64 n,.int .i64 m]] w fun e w'=>e = .returned (.tuple #[aV xo all.length xc place last nm nm place 4,.int .u64 0,.slice none 0 0])∧Fr (fun _=>False) w w':=by
 have hw:IntKind.i64.wrap ((all.length:Int) - place)=(all.length:Int) - place:=by rw[IntKind.wrap_i64];omega
 have hd:decide ((all.length:Int) - place<4)=false:=by simp;omega
 have hcut:=eS (n:=4) hx hlc hs (by decide)
 have hlen:((all.drop place).take 4).length≤8:=by simp;omega
 have hv:=ui all place
 generalize (all.drop place).take 4=l at *
 have HX:=ae (And.intro hcut (And.intro hlen (And.intro hq hv)))
 clear hx hcut hlen hq
 generalize all.length=len at *
 unfold aV
 go_enter Tryz.func125,Tryz.ntmps125
 go_wp2_with fail
 refine(cf _ l _ ((aa HX).1.fr (aI w _ _ _) (fun _ _ _ _ _ h=>h)) (aa HX).2.1).mono ?_
 rintro e w' ⟨rfl,rfl⟩
 go_wp2_with fail
 refine(lX (val l) _ (by omega)).mono ?_
 rintro e w' ⟨rfl,rfl⟩
 rw[(aa HX).2.2.1]
 go_wp2_with fail
 exact bodyPost_ret (v:=.tuple #[aV xo len xc place last nm nm place 4,.int .u64 0,.slice none 0 0]) (by simp[results,Tryz.results125,go_sem,aV]) rfl ⟨rfl,aI w _ _ _⟩
theorem oV (xo:Option Addr) (all:List Nat) (xc place:Nat) (last fa:Int) (nm fw s:ByteArray) (u:Nat) (n m:Int) (w:World) (hx:Src w (.slice xo all.length xc) all) (hlc:all.length≤xc) (hl:all.length≤140737488355328) (hs:4+place≤all.length) (hm:m<9223372036854775808) (hv:m<(val ((all.drop place).take 4):Int)) :
  Calls Tryz.prog 125 #[aV xo all.length xc place last nm fw fa 0,.agg #[.int .i64 6,.int .u64 u,.string s,.int .i64 n,.int .i64 m]] w fun e w'=>e = .returned (.tuple #[aV xo all.length xc place last nm nm place 2,.int .u64 0,.slice none 0 0])∧Fr (fun _=>False) w w':=by
 have hw:IntKind.i64.wrap ((all.length:Int) - place)=(all.length:Int) - place:=by rw[IntKind.wrap_i64];omega
 have hd:decide ((all.length:Int) - place<4)=false:=by simp;omega
 have hcut:=eS (n:=4) hx hlc hs (by decide)
 have hlen:((all.drop place).take 4).length≤8:=by simp;omega
 generalize (all.drop place).take 4=l at *
 have HX:=ae (And.intro hcut hlen)
 clear hx hcut hlen
 generalize all.length=len at *
 generalize hvx:val l=x at *
 have HVX:=ae hvx
 clear hvx
 unfold aV
 by_cases h0:m<0
 ·go_enter Tryz.func125,Tryz.ntmps125
  go_wp2_with fail
  refine(cf _ l _ ((aa HX).1.fr (aI w _ _ _) (fun _ _ _ _ _ h=>h)) (aa HX).2).mono ?_
  rintro e w' ⟨rfl,rfl⟩
  rw[aa HVX]
  go_wp2_with fail
  exact bodyPost_ret (v:=.tuple #[aV xo len xc place last nm nm place 2,.int .u64 0,.slice none 0 0]) (by simp[results,Tryz.results125,go_sem,aV]) rfl ⟨rfl,aI w _ _ _⟩
 ·have hw2:IntKind.u64.wrap m=m:=by rw[IntKind.wrap_u64];omega
  have hd0:decide (m<0)=false:=by simp;omega
  have hd2:decide (m<(x:Int))=true:=by simp;omega
  go_enter Tryz.func125,Tryz.ntmps125
  go_wp2_with fail
  refine(cf _ l _ ((aa HX).1.fr (aI w _ _ _) (fun _ _ _ _ _ h=>h)) (aa HX).2).mono ?_
  rintro e w' ⟨rfl,rfl⟩
  rw[aa HVX]
  go_wp2_with fail
  exact bodyPost_ret (v:=.tuple #[aV xo len xc place last nm nm place 2,.int .u64 0,.slice none 0 0]) (by simp[results,Tryz.results125,go_sem,aV]) rfl ⟨rfl,aI w _ _ _⟩
theorem pt (xo:Option Addr) (all:List Nat) (xc place:Nat) (last fa:Int) (nm fw s:ByteArray) (u:Nat) (n m:Int) (w:World) (hx:Src w (.slice xo all.length xc) all) (hlc:all.length≤xc) (hl:all.length≤140737488355328) (hs:4+place≤all.length) (hm:m<9223372036854775808) (hv:m<(val ((all.drop place).take 4):Int)) :
  Calls Tryz.prog 125 #[aV xo all.length xc place last nm fw fa 0,.agg #[.int .i64 7,.int .u64 u,.string s,.int .i64 n,.int .i64 m]] w fun e w'=>e = .returned (.tuple #[aV xo all.length xc place last nm nm place 2,.int .u64 0,.slice none 0 0])∧Fr (fun _=>False) w w':=by
 have hw:IntKind.i64.wrap ((all.length:Int) - place)=(all.length:Int) - place:=by rw[IntKind.wrap_i64];omega
 have hd:decide ((all.length:Int) - place<4)=false:=by simp;omega
 have hcut:=eS (n:=4) hx hlc hs (by decide)
 have hlen:((all.drop place).take 4).length≤8:=by simp;omega
 generalize (all.drop place).take 4=l at *
 have HX:=ae (And.intro hcut hlen)
 clear hx hcut hlen
 generalize all.length=len at *
 generalize hvx:val l=x at *
 have HVX:=ae hvx
 clear hvx
 unfold aV
 by_cases h0:m<0
 ·go_enter Tryz.func125,Tryz.ntmps125
  go_wp2_with fail
  refine(cf _ l _ ((aa HX).1.fr (aI w _ _ _) (fun _ _ _ _ _ h=>h)) (aa HX).2).mono ?_
  rintro e w' ⟨rfl,rfl⟩
  rw[aa HVX]
  go_wp2_with fail
  exact bodyPost_ret (v:=.tuple #[aV xo len xc place last nm nm place 2,.int .u64 0,.slice none 0 0]) (by simp[results,Tryz.results125,go_sem,aV]) rfl ⟨rfl,aI w _ _ _⟩
 ·have hw2:IntKind.u64.wrap m=m:=by rw[IntKind.wrap_u64];omega
  have hd0:decide (m<0)=false:=by simp;omega
  have hd2:decide (m<(x:Int))=true:=by simp;omega
  go_enter Tryz.func125,Tryz.ntmps125
  go_wp2_with fail
  refine(cf _ l _ ((aa HX).1.fr (aI w _ _ _) (fun _ _ _ _ _ h=>h)) (aa HX).2).mono ?_
  rintro e w' ⟨rfl,rfl⟩
  rw[aa HVX]
  go_wp2_with fail
  exact bodyPost_ret (v:=.tuple #[aV xo len xc place last nm nm place 2,.int .u64 0,.slice none 0 0]) (by simp[results,Tryz.results125,go_sem,aV]) rfl ⟨rfl,aI w _ _ _⟩
theorem th (xo:Option Addr) (all:List Nat) (xc place:Nat) (last fa:Int) (nm fw s:ByteArray) (u:Nat) (n m:Int) (w:World) (hx:Src w (.slice xo all.length xc) all) (hlc:all.length≤xc) (hl:all.length≤140737488355328) (hs:4+place≤all.length) (hm:m<9223372036854775808) (hv:(val ((all.drop place).take 4):Int)≤m) :
  Calls Tryz.prog 125 #[aV xo all.length xc place last nm fw fa 0,.agg #[.int .i64 7,.int .u64 u,.string s,.int .i64 n,.int .i64 m]] w fun e w'=>e = .returned (.tuple #[aV xo all.length xc ((place+4:Nat):Int) place nm fw fa 0,.int .u64 (val ((all.drop place).take 4)),.slice none 0 0])∧Fr (fun _=>False) w w':=by
 have hw:IntKind.i64.wrap ((all.length:Int) - place)=(all.length:Int) - place:=by rw[IntKind.wrap_i64];omega
 have hd:decide ((all.length:Int) - place<4)=false:=by simp;omega
 have hcut:=eS (n:=4) hx hlc hs (by decide)
 have hlen:((all.drop place).take 4).length≤8:=by simp;omega
 generalize (all.drop place).take 4=l at *
 have HX:=ae (And.intro hcut hlen)
 clear hx hcut hlen
 generalize all.length=len at *
 generalize hvx:val l=x at *
 have HVX:=ae hvx
 clear hvx
 unfold aV
 have hw2:IntKind.u64.wrap m=m:=by rw[IntKind.wrap_u64];omega
 have hd0:decide (m<0)=false:=by simp;omega
 have hd2:decide (m<(x:Int))=false:=by simp;omega
 go_enter Tryz.func125,Tryz.ntmps125
 go_wp2_with fail
 refine(cf _ l _ ((aa HX).1.fr (aI w _ _ _) (fun _ _ _ _ _ h=>h)) (aa HX).2).mono ?_
 rintro e w' ⟨rfl,rfl⟩
 rw[aa HVX]
 go_wp2_with fail
 exact bodyPost_ret (v:=.tuple #[aV xo len xc ((place+4:Nat):Int) place nm fw fa 0,.int .u64 x,.slice none 0 0]) (by simp[results,Tryz.results125,go_sem,aV]) rfl ⟨rfl,aI w _ _ _⟩
theorem p9 (xo:Option Addr) (all:List Nat) (xc place:Nat) (last fa:Int) (nm fw s:ByteArray) (u:Nat) (n m:Int) (w:World) (hx:Src w (.slice xo all.length xc) all) (hlc:all.length≤xc) (hl:all.length≤140737488355328) (hs:4+place≤all.length) (hm:m<9223372036854775808) (hv:(val ((all.drop place).take 4):Int)≤m) (hxl:all.length<val ((all.drop place).take 4)+(place+4)) :
  Calls Tryz.prog 125 #[aV xo all.length xc place last nm fw fa 0,.agg #[.int .i64 6,.int .u64 u,.string s,.int .i64 n,.int .i64 m]] w fun e w'=>e = .returned (.tuple #[aV xo all.length xc place last nm nm place 1,.int .u64 0,.slice none 0 0])∧Fr (fun _=>False) w w':=by
 have hw:IntKind.i64.wrap ((all.length:Int) - place)=(all.length:Int) - place:=by rw[IntKind.wrap_i64];omega
 have hw3:IntKind.i64.wrap ((all.length:Int) - place - 4)=(all.length:Int) - place - 4:=by rw[IntKind.wrap_i64];omega
 have hw4:IntKind.u64.wrap ((all.length:Int) - place - 4)=(all.length:Int) - place - 4:=by rw[IntKind.wrap_u64];omega
 have hd:decide ((all.length:Int) - place<4)=false:=by simp;omega
 have hcut:=eS (n:=4) hx hlc hs (by decide)
 have hlen:((all.drop place).take 4).length≤8:=by simp;omega
 generalize (all.drop place).take 4=l at *
 have HX:=ae (And.intro hcut hlen)
 clear hx hcut hlen
 generalize all.length=len at *
 generalize hvx:val l=x at *
 have HVX:=ae hvx
 clear hvx
 unfold aV
 have hw2:IntKind.u64.wrap m=m:=by rw[IntKind.wrap_u64];omega
 have hd0:decide (m<0)=false:=by simp;omega
 have hd2:decide (m<(x:Int))=false:=by simp;omega
 have hd3:decide ((len:Int) - place - 4<x)=true:=by simp;omega
 go_enter Tryz.func125,Tryz.ntmps125
 go_wp2_with fail
 refine(cf _ l _ ((aa HX).1.fr (aI w _ _ _) (fun _ _ _ _ _ h=>h)) (aa HX).2).mono ?_
 rintro e w' ⟨rfl,rfl⟩
 rw[aa HVX]
 go_wp2_with fail
 exact bodyPost_ret (v:=.tuple #[aV xo len xc place last nm nm place 1,.int .u64 0,.slice none 0 0]) (by simp[results,Tryz.results125,go_sem,aV]) rfl ⟨rfl,aI w _ _ _⟩
theorem Cr (x:Nat) (w:World) (hx:x≤16777216):∃ w',(Instr.makeSlice 23 (.int .i64 0) (.int .i64 (x:Int))).run Tryz.prog w = .ok (.slice (some ⟨w.heap.size,0,none⟩) 0 x) w'∧w'.ownsRow w.heap.size 5 1 (.slice (some ⟨w.heap.size,0,none⟩) 0 x) 0 []∧Fr (fun _=>False) w w':=by
 have hz':(Tryz.prog.info? 5).bind (·.zero)=some (.int .u8 0):=by kernel_rfl
 have hs':(Tryz.prog.info? 5).map (·.size)=some 1:=by kernel_rfl
 have hb':(Tryz.prog.info? 5).map (·.bytes)=some 1:=by kernel_rfl
 obtain⟨i,hi,hz⟩:=Option.bind_eq_some_iff.1 hz'
 rw[hi] at hs' hb'
 have hs:i.size=1:=by simpa using hs'
 have hb:i.bytes=1:=by simpa using hb'
 obtain⟨w',hr,ho,hg⟩:=run_makeSlice_owned (P:=Tryz.prog) w w.heap.size 23 5 i (.int .u8 0) 1 Tryz.underlying23 hi hz hs .i64 .i64 x (by omega) (by rw[hb];omega) (by simp only[maxLen];omega) (Nat.le_refl _)
 exact⟨w',hr,ho,(Fr.refl _ _).grown hg (fun _ h=>by cases h)⟩
def C7 (w:World) (g:Nat) (a0 a1 a2 a3 a4 a5 a6:Value):Prop:=
 w.cell? ⟨g,0,none⟩=some a0∧w.cell? ⟨g,1,none⟩=some a1∧w.cell? ⟨g,2,none⟩=some a2∧w.cell? ⟨g,3,none⟩=some a3∧w.cell? ⟨g,4,none⟩=some a4∧w.cell? ⟨g,5,none⟩=some a5∧w.cell? ⟨g,6,none⟩=some a6∧∀ i,w.frozen? ⟨g,i,none⟩=false
theorem C7.fr {w w':World} {g:Nat} {a0 a1 a2 a3 a4 a5 a6:Value} {S:Nat→Prop} (h:C7 w g a0 a1 a2 a3 a4 a5 a6) (hf:Fr S w w') (hS:¬ S g):C7 w' g a0 a1 a2 a3 a4 a5 a6:=by
 obtain⟨h0,h1,h2,h3,h4,h5,h6,hz⟩:=h
 have hg:g<w.heap.size:=ab h0
 have key:∀ {i:Nat} {v:Value},w.cell? ⟨g,i,none⟩=some v→w'.cell? ⟨g,i,none⟩=some v:=fun h=>(hf.cell hg hS).trans h
 exact⟨key h0,key h1,key h2,key h3,key h4,key h5,key h6,fun i=>(hf.frozen hg hS).trans (hz i)⟩
theorem yD (w:World) (a0 a1 a2 a3 a4 a5 a6:Value) (t:TypeId):C7 (w.alloc (.cells #[a0,a1,a2,a3,a4,a5,a6] t)) w.heap.size a0 a1 a2 a3 a4 a5 a6:=by simp[C7]
theorem wY (w:World) (a0 a1 a2 a3 a4 a5 a6:Value) (t:TypeId) (o2 o3:Obj):C7 (((w.alloc (.cells #[a0,a1,a2,a3,a4,a5,a6] t)).alloc o2).alloc o3) w.heap.size a0 a1 a2 a3 a4 a5 a6:=(yD w a0 a1 a2 a3 a4 a5 a6 t).fr (aY _ o2 o3) (fun h=>h)
theorem yb (w:World) (o1 o2:Obj) (a0 a1 a2 a3 a4 a5 a6:Value) (t:TypeId):C7 (((w.alloc o1).alloc o2).alloc (.cells #[a0,a1,a2,a3,a4,a5,a6] t)) (w.heap.size+1+1) a0 a1 a2 a3 a4 a5 a6:=by
 have h:=yD ((w.alloc o1).alloc o2) a0 a1 a2 a3 a4 a5 a6 t
 have e:((w.alloc o1).alloc o2).heap.size=w.heap.size+1+1:=by simp
 rw[e] at h
 exact h
theorem eP {w:World} {g j:Nat} {f:Nat→Value} {v:Value} (h:∀ i,i<7→w.cell? ⟨g,i,none⟩=some (f i)) (hj:j<7):∀ i,i<7→(w.setCell ⟨g,j,none⟩ v).cell? ⟨g,i,none⟩=some (if i=j then v else f i):=fun i hi=>by
 by_cases e:i=j
 ·subst e
  rw[World.cell?_setCell_same _ _ _ (h i hi),if_pos rfl]
 ·rw[World.cell?_setCell_other _ _ _ _ (by intro h;injection h with _ h2 _;exact e h2.symm),h i hi,if_neg e]
theorem Dn {w:World} {g:Nat} {o0 o1 o2 o3 o4 o5 o6:Value} (a0 a1 a2 a3 a4 a5 a6:Value) (h:C7 w g o0 o1 o2 o3 o4 o5 o6) :
  C7 (((((((w.setCell ⟨g,0,none⟩ a0).setCell ⟨g,1,none⟩ a1).setCell ⟨g,2,none⟩ a2).setCell ⟨g,3,none⟩ a3).setCell ⟨g,4,none⟩ a4).setCell ⟨g,5,none⟩ a5).setCell ⟨g,6,none⟩ a6) g a0 a1 a2 a3 a4 a5 a6 ∧
   Fr (fun k=>k=g) w (((((((w.setCell ⟨g,0,none⟩ a0).setCell ⟨g,1,none⟩ a1).setCell ⟨g,2,none⟩ a2).setCell ⟨g,3,none⟩ a3).setCell ⟨g,4,none⟩ a4).setCell ⟨g,5,none⟩ a5).setCell ⟨g,6,none⟩ a6):=by
 obtain⟨h0,h1,h2,h3,h4,h5,h6,hz⟩:=h
 have k:∀ i,i<7→w.cell? ⟨g,i,none⟩=some ([o0,o1,o2,o3,o4,o5,o6].getD i .nilIface):=fun i hi=>by
  match i,hi with
  | 0,_=>exact h0
  | 1,_=>exact h1
  | 2,_=>exact h2
  | 3,_=>exact h3
  | 4,_=>exact h4
  | 5,_=>exact h5
  | 6,_=>exact h6
 have q:=eP (v:=a6) (j:=6) (eP (v:=a5) (j:=5) (eP (v:=a4) (j:=4) (eP (v:=a3) (j:=3) (eP (v:=a2) (j:=2) (eP (v:=a1) (j:=1) (eP (v:=a0) (j:=0) k (by decide)) (by decide)) (by decide)) (by decide)) (by decide)) (by decide)) (by decide)
 refine⟨⟨q 0 (by decide),q 1 (by decide),q 2 (by decide),q 3 (by decide),q 4 (by decide),q 5 (by decide),q 6 (by decide),fun i=>by simp only[World.frozen?_setCell];exact hz i⟩,?_⟩
 have s:∀ {a b:World} {p:Addr} (v:Value),p.block=g→Fr (fun k=>k=g) a b→Fr (fun k=>k=g) a (b.setCell p v):=fun v hp hf=>Fr.setCell hf (.inl hp) v
 exact s _ rfl (s _ rfl (s _ rfl (s _ rfl (s _ rfl (s _ rfl (s _ rfl (Fr.refl _ _)))))))
theorem xx {w w2:World} {xo ao:Option Addr} {len xc place x ac:Nat} {nm fw:ByteArray} {fa:Int} {l2:List Nat} {b0 b1 b2 b3 b4 b5 b6:Value} (hC:C7 w2 (w.heap.size+1+1) b0 b1 b2 b3 b4 b5 b6)
  (hO:Src w2 (.slice ao x ac) l2∧∀ g o m c,(Value.slice ao x ac) = .slice (some ⟨g,o,none⟩) m c→w.heap.size+1+1+1≤g) (hF0:Fr (fun _=>False) w w2) :
  ∃ W9,W9=(((((((((w2.setCell ⟨w.heap.size,2,none⟩ (.int .i64 place)).setCell ⟨w.heap.size,1,none⟩ (.int .i64 ((place:Int)+4+x))).setCell ⟨w.heap.size+1+1,0,none⟩ (.slice xo len xc)).setCell ⟨w.heap.size+1+1,1,none⟩ (.int .i64 ((place:Int)+4+x))).setCell ⟨w.heap.size+1+1,2,none⟩ (.int .i64 place)).setCell ⟨w.heap.size+1+1,3,none⟩ (.string nm)).setCell ⟨w.heap.size+1+1,4,none⟩ (.string fw)).setCell ⟨w.heap.size+1+1,5,none⟩ (.int .i64 fa)).setCell ⟨w.heap.size+1+1,6,none⟩ (.int .i64 0)) ∧
   W9.cell? ⟨w.heap.size+1+1,0,none⟩=some (.slice xo len xc)∧W9.cell? ⟨w.heap.size+1+1,1,none⟩=some (.int .i64 ((place:Int)+4+x))∧W9.cell? ⟨w.heap.size+1+1,2,none⟩=some (.int .i64 place)∧W9.cell? ⟨w.heap.size+1+1,3,none⟩=some (.string nm)∧W9.cell? ⟨w.heap.size+1+1,4,none⟩=some (.string fw)∧W9.cell? ⟨w.heap.size+1+1,5,none⟩=some (.int .i64 fa)∧W9.cell? ⟨w.heap.size+1+1,6,none⟩=some (.int .i64 0)∧Src W9 (.slice ao x ac) l2∧Fr (fun _=>False) w W9:=by
 have hF:Fr (fun k=>k=w.heap.size) w2 ((w2.setCell ⟨w.heap.size,2,none⟩ (.int .i64 place)).setCell ⟨w.heap.size,1,none⟩ (.int .i64 ((place:Int)+4+x))):=Fr.setCell (S:=fun k=>k=w.heap.size) (Fr.setCell (S:=fun k=>k=w.heap.size) (Fr.refl _ _) (.inl rfl) _) (.inl rfl) _
 obtain⟨⟨q0,q1,q2,q3,q4,q5,q6,qz⟩,hF2⟩:=Dn (.slice xo len xc) (.int .i64 ((place:Int)+4+x)) (.int .i64 place) (.string nm) (.string fw) (.int .i64 fa) (.int .i64 0) (hC.fr hF (by show ¬ w.heap.size+1+1=w.heap.size;omega))
 refine⟨_,rfl,q0,q1,q2,q3,q4,q5,q6,?_,?_⟩
 ·exact(hO.1.fr hF (fun g o m c e h=>by have h':g=w.heap.size:=h;have:=hO.2 g o m c e;omega)).fr hF2 (fun g o m c e h=>by have h':g=w.heap.size+1+1:=h;have:=hO.2 g o m c e;omega)
 ·exact(hF0.CN hF (fun i e=>by have e':i=w.heap.size:=e;omega)).CN hF2 (fun i e=>by have e':i=w.heap.size+1+1:=e;omega)
theorem rF (xo:Option Addr) (all:List Nat) (xc place:Nat) (last fa:Int) (nm fw s:ByteArray) (u:Nat) (n m:Int) (w:World) (hx:Src w (.slice xo all.length xc) all) (hlc:all.length≤xc) (hl:all.length≤16777216) (hs:4+place≤all.length) (hm:m<9223372036854775808) (hv:(val ((all.drop place).take 4):Int)≤m) (hxl:val ((all.drop place).take 4)+(place+4)≤all.length) :
  Calls Tryz.prog 125 #[aV xo all.length xc place last nm fw fa 0,.agg #[.int .i64 6,.int .u64 u,.string s,.int .i64 n,.int .i64 m]] w fun e w'=>∃ v,e = .returned (.tuple #[aV xo all.length xc ((place+4+val ((all.drop place).take 4):Nat):Int) place nm fw fa 0,.int .u64 0,v])∧Src w' v ((all.drop (place+4)).take (val ((all.drop place).take 4)))∧(∀ g o m c,v = .slice (some ⟨g,o,none⟩) m c→w.heap.size≤g)∧Fr (fun _=>False) w w':=by
 have hw:IntKind.i64.wrap ((all.length:Int) - place)=(all.length:Int) - place:=by rw[IntKind.wrap_i64];omega
 have hw3:IntKind.i64.wrap ((all.length:Int) - place - 4)=(all.length:Int) - place - 4:=by rw[IntKind.wrap_i64];omega
 have hw4:IntKind.u64.wrap ((all.length:Int) - place - 4)=(all.length:Int) - place - 4:=by rw[IntKind.wrap_u64];omega
 have hd:decide ((all.length:Int) - place<4)=false:=by simp;omega
 have hcut:=eS (n:=4) hx hlc hs (by decide)
 have hcut2:=hx.cut (place+4) (val ((all.drop place).take 4)) (by omega) hlc
 have hlen:((all.drop place).take 4).length≤8:=by simp;omega
 generalize (all.drop place).take 4=l at *
 generalize hvx:val l=x at *
 have HX:=ae (And.intro hcut (And.intro hlen (And.intro hcut2 hvx)))
 clear hx hcut hlen hcut2 hvx
 have hL2:((all.drop (place+4)).take x).length=x:=by simp;omega
 generalize (all.drop (place+4)).take x=l2 at *
 have HL2:=ae hL2
 clear hL2
 generalize all.length=len at *
 unfold aV
 have hw2:IntKind.u64.wrap m=m:=by rw[IntKind.wrap_u64];omega
 have hw5:IntKind.i64.wrap (x:Int)=(x:Int):=by rw[IntKind.wrap_i64];omega
 have hd0:decide (m<0)=false:=by simp;omega
 have hd2:decide (m<(x:Int))=false:=by simp;omega
 have hd3:decide ((len:Int) - place - 4<x)=false:=by simp;omega
 go_enter Tryz.func125,Tryz.ntmps125
 go_wp2_with fail
 refine(cf _ l _ ((aa HX).1.fr (aI w _ _ _) (fun _ _ _ _ _ h=>h)) (aa HX).2.1).mono ?_
 rintro e w' ⟨rfl,rfl⟩
 rw[(aa HX).2.2.2]
 obtain⟨w3,hw3⟩:∃ w3,w3=(((w.alloc (.cells #[.slice xo len xc,.int .i64 place,.int .i64 last,.string nm,.string fw,.int .i64 fa,.int .i64 0] 120)).alloc (.cells #[.int .i64 6,.int .u64 u,.string s,.int .i64 n,.int .i64 m] 235)).alloc (.cells #[.slice none 0 0,.int .i64 0,.int .i64 0,.string ⟨#[]⟩,.string ⟨#[]⟩,.int .i64 0,.int .i64 0] 120)):=⟨_,rfl⟩
 have hb3:Fr (fun _=>False) w w3:=by rw[hw3];exact aI w _ _ _
 have r3:C7 w3 w.heap.size (.slice xo len xc) (.int .i64 place) (.int .i64 last) (.string nm) (.string fw) (.int .i64 fa) (.int .i64 0):=by rw[hw3];exact wY _ _ _ _ _ _ _ _ _ _ _
 have v3:C7 w3 (w.heap.size+1+1) (.slice none 0 0) (.int .i64 0) (.int .i64 0) (.string ⟨#[]⟩) (.string ⟨#[]⟩) (.int .i64 0) (.int .i64 0):=by rw[hw3];exact yb _ _ _ _ _ _ _ _ _ _ _
 have hz3:w3.heap.size=w.heap.size+1+1+1:=by rw[hw3];simp
 obtain⟨w1,hmk,ho1,hf1⟩:=Cr x w3 (by omega)
 have r1:=r3.fr hf1 (fun h=>h)
 have hS:=(((aa HX).2.2.1.fr hb3 (fun _ _ _ _ _ h=>h)).fr hf1 (fun _ _ _ _ _ h=>h))
 obtain⟨ao,ac,w2,hr2,ho2,hg2,_⟩:=gb w1 23 w3.heap.size 0 _ _ [] l2 ho1 hS (by rw[aa HL2];omega) hf1.size
 have hf2:Fr (fun _=>False) w3 w2:=hf1.grown hg2 (fun g hg=>.inr (ho1.lt g hg).1)
 have r2:=r3.fr hf2 (fun h=>h)
 have v2:=v3.fr hf2 (fun h=>h)
 rw[aa HL2,Nat.zero_add] at hr2 ho2
 have hO:Src w2 (.slice ao x ac) l2∧∀ g o m c,(Value.slice ao x ac) = .slice (some ⟨g,o,none⟩) m c→w.heap.size+1+1+1≤g:=by
  have hl:=aa HL2
  have ho2':w2.ownsRow w3.heap.size 5 1 (.slice ao x ac) l2.length (cellsOf l2):=by rw[hl];simpa using ho2
  exact⟨bR ho2',fun g o m c e=>by have:=(ho2'.lt g (by rw[e];rfl)).1;omega⟩
 have HO:=ae (And.intro hO (hb3.trans hf2 (fun _ _ h=>h)))
 clear hO
 have HV:=ae v2
 obtain⟨a0,a1,a2,a3,a4,a5,a6,az⟩:=r1
 obtain⟨e0,e1,e2,e3,e4,e5,e6,ez⟩:=r2
 obtain⟨d0,d1,d2,d3,d4,d5,d6,dz⟩:=v2
 rw[hz3] at hmk hr2
 rw[hw3] at hmk
 have HR:=ae hr2
 clear r3 v3 hf1 ho1 hS hg2 hb3 hf2 ho2 hr2 hz3 hw3
 have ez1:=ez 1
 have ez2:=ez 2
 clear az ez
 have ex:place+4+x - (place+4)=x:=by omega
 by_cases hcp:xc=place+4
 ·subst hcp
  have HR2:Hid ((Builtin.append_ #[23,23] 23 #[.slice (some ⟨w.heap.size+1+1+1,0,none⟩) 0 x,.slice xo (place+4+x - (place+4)) (place+4 - (place+4))]).run Tryz.prog w1 = .ok (.slice ao x ac) w2):=ae (by have h:=aa HR;rw[if_pos rfl] at h;rw[ex];exact h)
  clear HR ex
  go_wp2_with (at_builtin;refine br rfl (.tmp 155) (.tmp 167) 23 23 rfl _ _ _ rfl rfl (aa HR2) ?_)
  obtain⟨W9,hq,q0,q1,q2,q3,q4,q5,q6,hf9⟩:=xx (xo:=xo) (len:=len) (xc:=place+4) (place:=place) (x:=x) (nm:=nm) (fw:=fw) (fa:=fa) (aa HV) (aa HO).1 (aa HO).2
  rw[← hq]
  exact bodyPost_ret (v:=.tuple #[aV xo len (place+4) ((place+4+x:Nat):Int) place nm fw fa 0,.int .u64 0,.slice ao x ac]) (by simp[results,Tryz.results125,go_sem,aV,q0,q1,q2,q3,q4,q5,q6]) rfl ⟨_,rfl,by simpa[aa HL2] using hf9.1,fun g o m c e=>by have:=(aa HO).1.2 g o m c e;omega,hf9.2⟩
 ·have HR2:Hid ((Builtin.append_ #[23,23] 23 #[.slice (some ⟨w.heap.size+1+1+1,0,none⟩) 0 x,.slice (Option.map (fun x=>x.add (place+4)) xo) (place+4+x - (place+4)) (xc - (place+4))]).run Tryz.prog w1 = .ok (.slice ao x ac) w2):=ae (by have h:=aa HR;rw[if_neg hcp] at h;rw[ex];exact h)
  clear HR ex
  go_wp2_with (at_builtin;refine br rfl (.tmp 155) (.tmp 167) 23 23 rfl _ _ _ rfl rfl (aa HR2) ?_)
  obtain⟨W9,hq,q0,q1,q2,q3,q4,q5,q6,hf9⟩:=xx (xo:=xo) (len:=len) (xc:=xc) (place:=place) (x:=x) (nm:=nm) (fw:=fw) (fa:=fa) (aa HV) (aa HO).1 (aa HO).2
  rw[← hq]
  exact bodyPost_ret (v:=.tuple #[aV xo len xc ((place+4+x:Nat):Int) place nm fw fa 0,.int .u64 0,.slice ao x ac]) (by simp[results,Tryz.results125,go_sem,aV,q0,q1,q2,q3,q4,q5,q6]) rfl ⟨_,rfl,by simpa[aa HL2] using hf9.1,fun g o m c e=>by have:=(aa HO).1.2 g o m c e;omega,hf9.2⟩
def dn (x:Option (ByteArray × Nat × Nat)):ByteArray × Nat × Nat:=match x with
 | none=>(⟨#[]⟩,0,0)
 | some y=>y
def Q.ref (q:Q) (xo:Option Addr) (xc last:Nat):Value:=aV xo q.all.length xc q.at_ last q.nm (dn q.f).1 ((dn q.f).2.1:Nat) ((dn q.f).2.2:Nat)
theorem qy (xo:Option Addr) (len xc place:Nat) (last fa:Int) (nm fw:ByteArray) (w:World) (h:place<len) :
  Calls Tryz.prog 106 #[aV xo len xc place last nm fw fa 0] w fun e w'=>e = .returned (.agg #[.string nm,.int .i64 place,.int .i64 3])∧Fr (fun _=>False) w w':=by
 unfold aV
 go_enter Tryz.func106,Tryz.ntmps106
 go_wp2_with fail
 exact bodyPost_ret (v:=.agg #[.string nm,.int .i64 place,.int .i64 3]) (by simp[results,Tryz.results106,go_sem]) rfl ⟨rfl,aY w _ _⟩
theorem vg (xo:Option Addr) (len xc place:Nat) (last fa:Int) (nm fw:ByteArray) (w:World) (h:len≤place) :
  Calls Tryz.prog 106 #[aV xo len xc place last nm fw fa 0] w fun e w'=>e = .returned (.agg #[.string fw,.int .i64 fa,.int .i64 0])∧Fr (fun _=>False) w w':=by
 unfold aV
 go_enter Tryz.func106,Tryz.ntmps106
 go_wp2_with fail
 exact bodyPost_ret (v:=.agg #[.string fw,.int .i64 fa,.int .i64 0]) (by simp[results,Tryz.results106,go_sem]) rfl ⟨rfl,aY w _ _⟩
theorem qu (xo:Option Addr) (len xc:Nat) (place last fa fy:Int) (nm fw:ByteArray) (w:World) (h:fy≠0) :
  Calls Tryz.prog 106 #[aV xo len xc place last nm fw fa fy] w fun e w'=>e = .returned (.agg #[.string fw,.int .i64 fa,.int .i64 fy])∧Fr (fun _=>False) w w':=by
 have hy:(fy == 0)=false:=by simp[h]
 clear h
 unfold aV
 go_enter Tryz.func106,Tryz.ntmps106
 go_wp2_with fail
 exact bodyPost_ret (v:=.agg #[.string fw,.int .i64 fa,.int .i64 fy]) (by simp[results,Tryz.results106,go_sem]) rfl ⟨rfl,aY w _ _⟩
def Q.ended (q:Q):ByteArray × Nat × Nat:=if q.f=none∧q.place<q.all.length then (q.nm,q.place,3) else dn q.f
theorem vR (q:Q) (xo:Option Addr) (xc last:Nat) (w:World) (hq:q.ok) :
  Calls Tryz.prog 106 #[q.ref xo xc last] w fun e w'=>e = .returned (.agg #[.string q.ended.1,.int .i64 (q.ended.2.1:Nat),.int .i64 (q.ended.2.2:Nat)])∧Fr (fun _=>False) w w':=by
 obtain⟨nm,all,place,part,f⟩:=q
 cases f with
 | none =>
  by_cases h:place<all.length
  ·rw[Q.ended,if_pos ⟨rfl,h⟩]
   exact qy xo all.length xc place last 0 nm ⟨#[]⟩ w h
  ·rw[Q.ended,if_neg (fun x=>h x.2)]
   exact vg xo all.length xc place last 0 nm ⟨#[]⟩ w (by omega)
 | some y =>
  have h1:=(hq.f y rfl).2.1
  rw[Q.ended,if_neg (fun x=>by cases x.1)]
  exact qu xo all.length xc y.2.1 last y.2.1 y.2.2 nm y.1 w (by omega)
theorem nY (q:Q) (p:Pt) (xo:Option Addr) (xc last:Nat) (w:World) (hq:q.ok) (hx:Src w (.slice xo q.all.length xc) q.all) (hlc:q.all.length≤xc) (hl:q.all.length≤16777216) (hk:p.k∈kinds) (h9:p.k=9→0≤p.n∧p.n≤7) (hm:p.m<9223372036854775808) (hla:q.f=none→last=q.part) :
  Calls Tryz.prog 125 #[q.ref xo xc last,.agg #[.int .i64 p.k,.int .u64 p.u,.string p.s,.int .i64 p.n,.int .i64 p.m]] w fun e w'=>∃ last' v,e = .returned (.tuple #[(q.step p).1.ref xo xc last',.int .u64 (q.step p).2.1,v])∧Src w' v (q.step p).2.2∧(∀ g o m c,v = .slice (some ⟨g,o,none⟩) m c→w.heap.size≤g)∧((q.step p).1.f=none→last'=(q.step p).1.part)∧Fr (fun _=>False) w w':=by
 obtain⟨k,u,s,n,m⟩:=p
 obtain⟨nm,all,place,part,f⟩:=q
 simp only at hx hlc hl hk h9 hm hla
 have hpl:=hq.place
 simp only at hpl
 have src0:∀ w',Src w' (.slice none 0 0) []:=fun _=>.inl ⟨rfl,rfl⟩
 have loc0:∀ g o m c,(Value.slice none 0 0) = .slice (some ⟨g,o,none⟩) m c→w.heap.size≤g:=fun _ _ _ _ h=>by cases h
 by_cases h10:k=10
 ·subst h10
  refine(wP xo all.length xc _ last _ _ nm (dn f).1 s u n m w).mono ?_
  rintro e w' ⟨rfl,hf⟩
  refine⟨last,.slice none 0 0,?_,src0 _,loc0,hla,hf⟩
  cases f <;> rfl
 cases f with
 | some y =>
  have h1:=(hq.f y rfl).2.1
  have es:Q.step ⟨nm,all,place,part,some y⟩ ⟨k,u,s,n,m⟩=(⟨nm,all,place,part,some y⟩,0,[]):=by simp[Q.step,h10]
  rw[es]
  refine(qn xo all.length xc y.2.1 last y.2.1 y.2.2 nm y.1 s k u n m w h10 (by omega)).mono ?_
  rintro e w' ⟨rfl,hf⟩
  exact⟨last,.slice none 0 0,rfl,src0 _,loc0,(fun h=>by cases h),hf⟩
 | none =>
  obtain rfl:=hla rfl
  have fin:∀ (q2:Q) (v:Nat),q2.f=none→q2.part=place→∀ (e:Ending) (w':World),(e = .returned (.tuple #[q2.ref xo xc place,.int .u64 v,.slice none 0 0])∧Fr (fun _=>False) w w')→∃ last' v',e = .returned (.tuple #[q2.ref xo xc last',.int .u64 v,v'])∧Src w' v' []∧(∀ g o m c,v' = .slice (some ⟨g,o,none⟩) m c→w.heap.size≤g)∧(q2.f=none→last'=q2.part)∧Fr (fun _=>False) w w':=
   fun q2 v h1 h2 e w' ⟨he,hf⟩=>⟨place,_,he,src0 _,loc0,fun _=>h2.symm,hf⟩
  have bad:∀ (q2:Q),q2.f≠none→∀ (e:Ending) (w':World),(e = .returned (.tuple #[q2.ref xo xc last,.int .u64 0,.slice none 0 0])∧Fr (fun _=>False) w w')→∃ last' v',e = .returned (.tuple #[q2.ref xo xc last',.int .u64 (0:Nat),v'])∧Src w' v' []∧(∀ g o m c,v' = .slice (some ⟨g,o,none⟩) m c→w.heap.size≤g)∧(q2.f=none→last'=q2.part)∧Fr (fun _=>False) w w':=
   fun q2 h1 e w' ⟨he,hf⟩=>⟨last,_,he,src0 _,loc0,fun h=>absurd h h1,hf⟩
  by_cases hk9:k=9
  ·subst hk9
   by_cases hn:n=0
   ·subst hn
    have es:Q.step ⟨nm,all,place,last,none⟩ ⟨9,u,s,0,m⟩=(⟨nm,all,place,last,none⟩,0,[]):=by simp[Q.step]
    rw[es]
    refine(wW xo all.length xc place last 0 nm ⟨#[]⟩ s u m w).mono ?_
    rintro e w' ⟨rfl,hf⟩
    exact⟨last,_,rfl,src0 _,loc0,fun _=>rfl,hf⟩
   ·have es:Q.step ⟨nm,all,place,last,none⟩ ⟨9,u,s,n,m⟩=(⟨nm,all,place,last,some (nm,last,n.toNat)⟩,0,[]):=by simp[Q.step,hn]
    rw[es]
    obtain⟨n',rfl⟩:=Int.eq_ofNat_of_zero_le (h9 rfl).1
    rw[Int.toNat_natCast]
    exact(zT xo all.length xc place last 0 nm ⟨#[]⟩ s u n' m w hn).mono (bad ⟨nm,all,place,last,some (nm,last,n')⟩ (by simp))
  simp only[kinds,List.mem_cons,List.not_mem_nil,or_false] at hk
  have hk':k=1∨k=2∨k=4∨k=8∨k=5∨k=6∨k=7:=by omega
  clear hk h9 h10 hk9
  rcases hk' with rfl|rfl|rfl|rfl|rfl|rfl|rfl
  ·by_cases hs:all.length<1+place
   ·have es:Q.step ⟨nm,all,place,last,none⟩ ⟨1,u,s,n,m⟩=(⟨nm,all,place,last,some (nm,place,1)⟩,0,[]):=by simp[Q.step,wid,Q.fail,hs]
    rw[es]
    exact(ni xo all.length xc place last 0 nm ⟨#[]⟩ s u n m w hpl hs).mono (bad ⟨nm,all,place,last,some (nm,place,1)⟩ (by simp))
   ·have es:Q.step ⟨nm,all,place,last,none⟩ ⟨1,u,s,n,m⟩=(⟨nm,all,place+1,place,none⟩,val ((all.drop place).take 1),[]):=by simp[Q.step,wid,Q.num,hs]
    rw[es]
    exact(sZ xo all xc place last 0 nm ⟨#[]⟩ s u n m w hx hlc (by omega) (by omega)).mono (fin ⟨nm,all,place+1,place,none⟩ _ rfl rfl)
  ·by_cases hs:all.length<2+place
   ·have es:Q.step ⟨nm,all,place,last,none⟩ ⟨2,u,s,n,m⟩=(⟨nm,all,place,last,some (nm,place,1)⟩,0,[]):=by simp[Q.step,wid,Q.fail,hs]
    rw[es]
    exact(mV xo all.length xc place last 0 nm ⟨#[]⟩ s u n m w hpl hs).mono (bad ⟨nm,all,place,last,some (nm,place,1)⟩ (by simp))
   ·have es:Q.step ⟨nm,all,place,last,none⟩ ⟨2,u,s,n,m⟩=(⟨nm,all,place+2,place,none⟩,val ((all.drop place).take 2),[]):=by simp[Q.step,wid,Q.num,hs]
    rw[es]
    exact(rI xo all xc place last 0 nm ⟨#[]⟩ s u n m w hx hlc (by omega) (by omega)).mono (fin ⟨nm,all,place+2,place,none⟩ _ rfl rfl)
  ·by_cases hs:all.length<4+place
   ·have es:Q.step ⟨nm,all,place,last,none⟩ ⟨4,u,s,n,m⟩=(⟨nm,all,place,last,some (nm,place,1)⟩,0,[]):=by simp[Q.step,wid,Q.fail,hs]
    rw[es]
    exact(m7 xo all.length xc place last 0 nm ⟨#[]⟩ s u n m w hpl hs).mono (bad ⟨nm,all,place,last,some (nm,place,1)⟩ (by simp))
   ·have es:Q.step ⟨nm,all,place,last,none⟩ ⟨4,u,s,n,m⟩=(⟨nm,all,place+4,place,none⟩,val ((all.drop place).take 4),[]):=by simp[Q.step,wid,Q.num,hs]
    rw[es]
    exact(tL xo all xc place last 0 nm ⟨#[]⟩ s u n m w hx hlc (by omega) (by omega)).mono (fin ⟨nm,all,place+4,place,none⟩ _ rfl rfl)
  ·by_cases hs:all.length<8+place
   ·have es:Q.step ⟨nm,all,place,last,none⟩ ⟨8,u,s,n,m⟩=(⟨nm,all,place,last,some (nm,place,1)⟩,0,[]):=by simp[Q.step,wid,Q.fail,hs]
    rw[es]
    exact(my xo all.length xc place last 0 nm ⟨#[]⟩ s u n m w hpl hs).mono (bad ⟨nm,all,place,last,some (nm,place,1)⟩ (by simp))
   ·have es:Q.step ⟨nm,all,place,last,none⟩ ⟨8,u,s,n,m⟩=(⟨nm,all,place+8,place,none⟩,val ((all.drop place).take 8),[]):=by simp[Q.step,wid,Q.num,hs]
    rw[es]
    exact(tk xo all xc place last 0 nm ⟨#[]⟩ s u n m w hx hlc (by omega) (by omega)).mono (fin ⟨nm,all,place+8,place,none⟩ _ rfl rfl)
  ·by_cases hs:all.length<4+place
   ·have es:Q.step ⟨nm,all,place,last,none⟩ ⟨5,u,s,n,m⟩=(⟨nm,all,place,last,some (nm,place,1)⟩,0,[]):=by simp[Q.step,wid,Q.fail,hs]
    rw[es]
    exact(mv xo all.length xc place last 0 nm ⟨#[]⟩ s u n m w hpl hs).mono (bad ⟨nm,all,place,last,some (nm,place,1)⟩ (by simp))
   cases hqb:bM (val ((all.drop place).take 4)) with
   | false =>
    have es:Q.step ⟨nm,all,place,last,none⟩ ⟨5,u,s,n,m⟩=(⟨nm,all,place,last,some (nm,place,4)⟩,0,[]):=by simp[Q.step,wid,Q.fail,Q.num,hs,hqb]
    rw[es]
    exact(pW xo all xc place last 0 nm ⟨#[]⟩ s u n m w hx hlc (by omega) (by omega) hqb).mono (bad ⟨nm,all,place,last,some (nm,place,4)⟩ (by simp))
   | true =>
    have es:Q.step ⟨nm,all,place,last,none⟩ ⟨5,u,s,n,m⟩=(⟨nm,all,place+4,place,none⟩,val ((all.drop place).take 4),[]):=by simp[Q.step,wid,Q.num,hs,hqb]
    rw[es]
    exact(sJ xo all xc place last 0 nm ⟨#[]⟩ s u n m w hx hlc (by omega) (by omega) hqb).mono (fin ⟨nm,all,place+4,place,none⟩ _ rfl rfl)
  ·by_cases hs:all.length<4+place
   ·have es:Q.step ⟨nm,all,place,last,none⟩ ⟨6,u,s,n,m⟩=(⟨nm,all,place,last,some (nm,place,1)⟩,0,[]):=by simp[Q.step,wid,Q.fail,hs]
    rw[es]
    exact(mK xo all.length xc place last 0 nm ⟨#[]⟩ s u n m w hpl hs).mono (bad ⟨nm,all,place,last,some (nm,place,1)⟩ (by simp))
   by_cases hv:m<(val ((all.drop place).take 4):Int)
   ·have es:Q.step ⟨nm,all,place,last,none⟩ ⟨6,u,s,n,m⟩=(⟨nm,all,place,last,some (nm,place,2)⟩,0,[]):=by simp[Q.step,wid,Q.fail,Q.num,hs,hv]
    rw[es]
    exact(oV xo all xc place last 0 nm ⟨#[]⟩ s u n m w hx hlc (by omega) (by omega) hm hv).mono (bad ⟨nm,all,place,last,some (nm,place,2)⟩ (by simp))
   by_cases hxl:all.length<val ((all.drop place).take 4)+(place+4)
   ·have es:Q.step ⟨nm,all,place,last,none⟩ ⟨6,u,s,n,m⟩=(⟨nm,all,place,last,some (nm,place,1)⟩,0,[]):=by simp[Q.step,wid,Q.fail,Q.num,hs,hv,hxl]
    rw[es]
    exact(p9 xo all xc place last 0 nm ⟨#[]⟩ s u n m w hx hlc (by omega) (by omega) hm (by omega) hxl).mono (bad ⟨nm,all,place,last,some (nm,place,1)⟩ (by simp))
   ·have es:Q.step ⟨nm,all,place,last,none⟩ ⟨6,u,s,n,m⟩=(⟨nm,all,place+4+val ((all.drop place).take 4),place,none⟩,0,(all.drop (place+4)).take (val ((all.drop place).take 4))):=by simp[Q.step,wid,Q.num,hs,hv,hxl]
    rw[es]
    refine(rF xo all xc place last 0 nm ⟨#[]⟩ s u n m w hx hlc hl (by omega) hm (by omega) (by omega)).mono ?_
    rintro e w' ⟨v,rfl,hsv,hlo,hf⟩
    exact⟨place,v,rfl,hsv,hlo,fun _=>rfl,hf⟩
  ·by_cases hs:all.length<4+place
   ·have es:Q.step ⟨nm,all,place,last,none⟩ ⟨7,u,s,n,m⟩=(⟨nm,all,place,last,some (nm,place,1)⟩,0,[]):=by simp[Q.step,wid,Q.fail,hs]
    rw[es]
    exact(nr xo all.length xc place last 0 nm ⟨#[]⟩ s u n m w hpl hs).mono (bad ⟨nm,all,place,last,some (nm,place,1)⟩ (by simp))
   by_cases hv:m<(val ((all.drop place).take 4):Int)
   ·have es:Q.step ⟨nm,all,place,last,none⟩ ⟨7,u,s,n,m⟩=(⟨nm,all,place,last,some (nm,place,2)⟩,0,[]):=by simp[Q.step,wid,Q.fail,Q.num,hs,hv]
    rw[es]
    exact(pt xo all xc place last 0 nm ⟨#[]⟩ s u n m w hx hlc (by omega) (by omega) hm hv).mono (bad ⟨nm,all,place,last,some (nm,place,2)⟩ (by simp))
   ·have es:Q.step ⟨nm,all,place,last,none⟩ ⟨7,u,s,n,m⟩=(⟨nm,all,place+4,place,none⟩,val ((all.drop place).take 4),[]):=by simp[Q.step,wid,Q.num,hs,hv]
    rw[es]
    exact(th xo all xc place last 0 nm ⟨#[]⟩ s u n m w hx hlc (by omega) (by omega) hm (by omega)).mono (fin ⟨nm,all,place+4,place,none⟩ _ rfl rfl)
def df (w:World) (v:Value) (x:ByteArray × Nat × Nat) (E:Nat→Addr):Prop:=
 (x.2.2=0∧v = .nilIface)∨(1≤x.2.2∧x.2.2≤7∧∃ fb,v = .iface 78 (.pointer (some ⟨fb,0,none⟩))∧w.heap[fb]?=some (aJ x.1 x.2.1 (E x.2.2)))
theorem df.fr {w w':World} {v:Value} {x:ByteArray × Nat × Nat} {E:Nat→Addr} (h:df w v x E) (hf:Fr (fun _=>False) w w'):df w' v x E:=by
 rcases h with h|⟨h1,h7,fb,rfl,hb⟩
 ·exact .inl h
 ·have hlt:fb<w.heap.size:=by
   rcases Nat.lt_or_ge fb w.heap.size with hx|hx
   ·exact hx
   ·rw[Array.getElem?_eq_none hx] at hb;cases hb
  exact .inr ⟨h1,h7,fb,rfl,(hf.block fb hlt (fun h=>h)).trans hb⟩
theorem qQ (b:Nat) (F:Nat→Prop) (s:dy) (what:ByteArray) (place:Nat) (ea:Addr) (w:World) (h:R w b F s) (hn:s.f=some (what,place,ea)) :
  Calls Tryz.prog 86 #[.pointer (some ⟨b,0,none⟩)] w fun e w'=>∃ fa,e = .returned (.iface 78 (.pointer (some ⟨fa,0,none⟩)))∧w'.heap[fa]?=some (aJ what place ea)∧Fr (fun _=>False) w w':=by
 rcases h.st with ⟨h1,_⟩|⟨what',place',ea',fb,h1,h2,h3,h4,h5,h6,h7⟩
 ·rw[hn] at h1;cases h1
 rw[hn] at h1
 obtain⟨rfl,rfl,rfl⟩:what=what'∧place=place'∧ea=ea':=by simpa using h1
 have H7:=ae h7
 clear h1 h2 h3 h5 h6 h7 h hn
 go_enter Tryz.func86,Tryz.ntmps86
 go_wp2_with fail
 go_quiet (fail)
 go_wp2_with fail
 refine(nA b fb place what ea (w.drewN nq) (by simpa using h4) (aa H7)).mono ?_
 rintro e w' ⟨rfl,rfl⟩
 go_wp2_with fail
 go_ret
 exact⟨_,rfl,heap_alloc_new _ _,((Fr.refl _ _).drewN _).alloc _⟩
theorem gu (q:Q) (b:Nat) (F:Nat→Prop) (E:Nat→Addr) (w:World) (h:R w b F (q.dH E)) (hq:q.ok) (hg:Gl w E) :
  Calls Tryz.prog 86 #[.pointer (some ⟨b,0,none⟩)] w fun e w'=>∃ v,e = .returned v∧df w' v q.ended E∧Fr (fun _=>False) w w':=by
 obtain⟨nm,all,place,part,f⟩:=q
 cases f with
 | none =>
  by_cases hp:place<all.length
  ·rw[Q.ended,if_pos ⟨rfl,hp⟩]
   refine(qM b F _ E w hg h rfl hp).mono ?_
   rintro e w' ⟨fb,rfl,hb,hf,_⟩
   exact⟨_,rfl,.inr ⟨(by decide:1≤3),(by decide:3≤7),fb,rfl,hb⟩,hf⟩
  ·rw[Q.ended,if_neg (fun x=>hp x.2)]
   have hple:place=all.length:=Nat.le_antisymm hq.place (by omega)
   refine(uO b F _ w h rfl hple).mono ?_
   rintro e w' ⟨rfl,hf⟩
   exact⟨_,rfl,.inl ⟨rfl,rfl⟩,hf⟩
 | some y =>
  rw[Q.ended,if_neg (fun x=>by cases x.1)]
  refine(qQ b F _ y.1 y.2.1 (E y.2.2) w h rfl).mono ?_
  rintro e w' ⟨fb,rfl,hb,hf⟩
  exact⟨_,rfl,.inr ⟨(hq.f y rfl).2.1,(hq.f y rfl).2.2,fb,rfl,hb⟩,hf⟩
abbrev TS (w0:World) (g:Nat) (a0 a1 a2 a3 a4 a5 a6:Value) (w:World):Prop:=
 w.cell? ⟨g,0,none⟩=some a0∧w.cell? ⟨g,1,none⟩=some a1∧w.cell? ⟨g,2,none⟩=some a2∧w.cell? ⟨g,3,none⟩=some a3∧w.cell? ⟨g,4,none⟩=some a4∧w.cell? ⟨g,5,none⟩=some a5∧w.cell? ⟨g,6,none⟩=some a6∧Fr (fun _=>False) w0 w
theorem TS.next {w0 w w':World} {g:Nat} {a0 a1 a2 a3 a4 a5 a6:Value} (h:TS w0 g a0 a1 a2 a3 a4 a5 a6 w) (hf:Fr (fun _=>False) w w'):TS w0 g a0 a1 a2 a3 a4 a5 a6 w':=by
 obtain⟨h0,h1,h2,h3,h4,h5,h6,hF⟩:=h
 have key:∀ {i:Nat} {v:Value},w.cell? ⟨g,i,none⟩=some v→w'.cell? ⟨g,i,none⟩=some v:=fun h=>(hf.cell (ab h) (fun h=>h)).trans h
 exact⟨key h0,key h1,key h2,key h3,key h4,key h5,key h6,hF.trans hf (fun _ _ h=>h)⟩
def CS.fD (c:CS) (ps:List (List Nat)):CS × List (List Nat):=match c with
 | .wr s=>(dK (fun c v=>c.bA aW v) ((CS.wr s).cv bQ (4096:Nat) (dU (4096:Nat) []) ps.length).1 (ps.take (min ps.length 4096)),ps)
 | .rd q=>bg (fun c v=>c.bA aW v) [] (min ((q.named bQ).go 7 (4096:Nat)).2.1 4096) ((CS.rd q).cv bQ (4096:Nat) (dU (4096:Nat) []) 0).1
theorem yX (q:Q) (cb b g o:Nat) (F:Nat→Prop) (E:Nat→Addr) (w:World) (h:Cd w cb b F (.rd q) E) (hp:w.cell? ⟨g,o,none⟩=some (.slice none 0 0)) (hL:Loc w cb F g o) :
  Calls Tryz.prog 113 #[.pointer (some ⟨cb,0,none⟩),.pointer (some ⟨g,o,none⟩)] w fun e w'=>e = .returned (.tuple #[])∧∃ F',Cd w' cb b F' ((CS.rd q).fD []).1 E∧∃ x,w'.cell? ⟨g,o,none⟩=some x∧iD w' w.heap.size x ((CS.rd q).fD []).2 F'∧ar w w' F F' (fun k j=>k=g∧j=o):=by
 have hmf:=mf
 have hlp:=hL.lt
 have hbx:=al w (.cells #[.pointer (some ⟨cb,0,none⟩)] 138)
 have hng:¬ F w.heap.size:=fun hx=>by have:=h.lt _ hx;omega
 have HH:Hid (∀ wx,Fr (fun _=>False) (w.alloc (.cells #[.pointer (some ⟨cb,0,none⟩)] 138)) wx→Calls Tryz.prog 142 #[.pointer (some ⟨cb,0,none⟩),.string bQ,.pointer (some ⟨g,o,none⟩),.int .i64 4096,.func (.func 143) #[] #[.pointer (some ⟨w.heap.size,0,none⟩)],.slice none 0 0] wx fun e w'=>e = .returned (.tuple #[])∧(∃ F',Cd w' cb b F' ((CS.rd q).fD []).1 E∧∃ x,w'.cell? ⟨g,o,none⟩=some x∧iD w' w.heap.size x ((CS.rd q).fD []).2 F'∧ar w w' F F' (fun k j=>k=g∧j=o))∧w'.cell? ⟨w.heap.size,0,none⟩=some (.pointer (some ⟨cb,0,none⟩))):=by
  intro wx hfx
  have hf:=hbx.trans hfx (fun _ _ h=>h)
  have hcx:wx.cell? ⟨w.heap.size,0,none⟩=some (.pointer (some ⟨cb,0,none⟩)):=(hfx.cell (p:=⟨w.heap.size,0,none⟩) (by simp) (fun h=>h)).trans (by simp)
  refine(rL q bQ 4096 cb b g o w.heap.size F E wx (h.aR hf) (by decide) ((hf.cell (p:=⟨g,o,none⟩) hlp (fun h=>h)).trans hp) (hL.aR hf) hcx hng (by omega)).mono ?_
  rintro e w1 ⟨rfl,F1,hC1,x,hx,hO,hs1⟩
  exact⟨rfl,⟨F1,hC1,x,hx,hO.base hf.size,(ar.bh hf F _).trans hs1 (fun _ _ _ h=>h)⟩,(hs1.oth w.heap.size 0 (ab hcx) hng (fun h=>by omega)).trans hcx⟩
 have hS0:Fr (fun _=>False) (w.alloc (.cells #[.pointer (some ⟨cb,0,none⟩)] 138)) (w.alloc (.cells #[.pointer (some ⟨cb,0,none⟩)] 138)):=Fr.refl _ _
 have hcb:(w.alloc (.cells #[.pointer (some ⟨cb,0,none⟩)] 138)).cell? ⟨w.heap.size,0,none⟩=some (.pointer (some ⟨cb,0,none⟩)):=by simp
 clear h hL hbx hng
 go_enter Tryz.func113,Tryz.ntmps113
 go_wp2_with fail
 go_region_held3 (fun w'=>w'.cell? ⟨w.heap.size,0,none⟩=some (.pointer (some ⟨cb,0,none⟩))) (first|assumption|(simp only[World.cell?_drew,World.cell?_drewN];assumption)) (first
  | (go_at_call 142;refine((aa HH) _ (by first|assumption|exact Fr.drew (by assumption))).mono ?_;rintro e w1 ⟨rfl,h1,hc1⟩))
 have H1:=ae h1
 clear h1
 go_wp2_with fail
 go_end0
 exact⟨rfl,aa H1⟩
theorem CS.cA {c:CS} {n:Nat} (h:c.room (n+1)) (k:Nat):(c.aE k).room n:=CS.ch h _ _ _
theorem lE (c:CS) (size:Nat) (root:List Nat) (x:Value) (cb b g:Nat) (F:Nat→Prop) (E:Nat→Addr) (w:World) (h:Cd w cb b F c E) (hp0:w.cell? ⟨g,0,none⟩=some (.int .u32 (size:Nat))) (hp1:w.cell? ⟨g,1,none⟩=some x) (hB:n5 w x root F g) (hL:∀ i,Loc w cb F g i) (hsz:size<4294967296) (hroom:c.room 3) :
  Calls Tryz.prog 68 #[.pointer (some ⟨cb,0,none⟩),.iface 173 (.pointer (some ⟨g,0,none⟩))] w fun e w'=>e = .returned (.tuple #[])∧∃ F',Cd w' cb b F' ((c.aE 4).dE (size,root)).1 E∧w'.cell? ⟨g,0,none⟩=some (.int .u32 (((c.aE 4).dE (size,root)).2.1:Nat))∧∃ x',w'.cell? ⟨g,1,none⟩=some x'∧BO w w' c x' ((c.aE 4).dE (size,root)).2.2 F' g∧ar w w' F F' (aC g 0 2):=by
 have t0:=Tryz.y7
 have t1:=Tryz.kE
 have t2:=Tryz.kZ
 have t3:=Tryz.mH
 have HF:=ae (eZ c 4 cb b F E w h (by decide) (by simp only[CS.room] at *;omega))
 have hgl:=(hL 0).lt
 have hgF:=(hL 0).nF
 have H:=ae (And.intro hB hL)
 clear h hB hL
 go_enter Tryz.func68,Tryz.ntmps68
 go_wp2_with fail
 refine(aa HF).mono ?_
 rintro e w1 ⟨rfl,F1,hC1,hs1⟩
 have HH:=ae (qa (c.aE 4) size root x cb b g 0 F1 E w1 hC1 ((hs1.oth g 0 hgl hgF (fun h=>h)).trans hp0) ((hs1.oth g 1 hgl hgF (fun h=>h)).trans hp1) ((aa H).1.aP hs1 (fun _ _ _ h=>h.elim)) (fun i=>((aa H).2 i).aP hs1) hsz (CS.cA hroom 4))
 have H1:=ae hs1
 clear hC1 hs1
 go_wp2_with fail
 refine(aa HH).mono ?_
 rintro e w2 ⟨rfl,F2,hC2,hc2,x2,hx2,ho2,hs2⟩
 have H2:=ae (And.intro hC2 (And.intro hc2 (And.intro hx2 (And.intro (ho2.mode (w0:=w) (c:=c) (aa H1).size (by rintro q rfl;exact⟨_,rfl⟩)) (((aa H1).mono (fun _ _ _ h=>h.elim)).trans hs2 (fun _ _ _ h=>h))))))
 clear hC2 hc2 hx2 ho2 hs2
 go_wp2_with fail
 go_end0
 obtain⟨a1,a2,a3,a4,a5⟩:=aa H2
 exact⟨rfl,F2,a1,a2,x2,a3,a4,a5⟩
theorem oQ (c:CS) (size key:Nat) (root sig:List Nat) (x y:Value) (cb b g:Nat) (F:Nat→Prop) (E:Nat→Addr) (w:World) (h:Cd w cb b F c E) (hp0:w.cell? ⟨g,0,none⟩=some (.int .u32 (size:Nat))) (hp1:w.cell? ⟨g,1,none⟩=some x) (hp2:w.cell? ⟨g,2,none⟩=some (.int .u32 (key:Nat))) (hp3:w.cell? ⟨g,3,none⟩=some y) (hB:n5 w x root F g) (hB2:n5 w y sig F g) (hL:∀ i,Loc w cb F g i) (hsz:size<4294967296) (hkey:key<4294967296) (hroom:c.room 5) :
  Calls Tryz.prog 68 #[.pointer (some ⟨cb,0,none⟩),.iface 213 (.pointer (some ⟨g,0,none⟩))] w fun e w'=>e = .returned (.tuple #[])∧∃ F',Cd w' cb b F' ((c.aE 5).cR ((size,root),key,sig)).1 E∧w'.cell? ⟨g,0,none⟩=some (.int .u32 (((c.aE 5).cR ((size,root),key,sig)).2.1.1:Nat))∧w'.cell? ⟨g,2,none⟩=some (.int .u32 (((c.aE 5).cR ((size,root),key,sig)).2.2.1:Nat))∧∃ x' y',w'.cell? ⟨g,1,none⟩=some x'∧w'.cell? ⟨g,3,none⟩=some y'∧BO w w' c x' ((c.aE 5).cR ((size,root),key,sig)).2.1.2 F' g∧BO w w' c y' ((c.aE 5).cR ((size,root),key,sig)).2.2.2 F' g∧ar w w' F F' (aC g 0 4):=by
 have t0:=Tryz.uV
 have t1:=Tryz.jy
 have t2:=Tryz.jZ
 have t3:=Tryz.kC
 have t4:=Tryz.mg
 have HF:=ae (eZ c 5 cb b F E w h (by decide) (by simp only[CS.room] at *;omega))
 have hgl:=(hL 0).lt
 have hgF:=(hL 0).nF
 have H:=ae (And.intro hB (And.intro hB2 hL))
 clear h hB hB2 hL
 go_enter Tryz.func68,Tryz.ntmps68
 go_wp2_with fail
 refine(aa HF).mono ?_
 rintro e w1 ⟨rfl,F1,hC1,hs1⟩
 have HH:=ae (ss (c.aE 5) size key root sig x y cb b g 0 F1 E w1 hC1 ((hs1.oth g 0 hgl hgF (fun h=>h)).trans hp0) ((hs1.oth g 1 hgl hgF (fun h=>h)).trans hp1) ((hs1.oth g 2 hgl hgF (fun h=>h)).trans hp2) ((hs1.oth g 3 hgl hgF (fun h=>h)).trans hp3) ((aa H).1.aP hs1 (fun _ _ _ h=>h.elim)) ((aa H).2.1.aP hs1 (fun _ _ _ h=>h.elim)) (fun i=>((aa H).2.2 i).aP hs1) hsz hkey (CS.cA hroom 5))
 have H1:=ae hs1
 clear hC1 hs1
 go_wp2_with fail
 refine(aa HH).mono ?_
 rintro e w2 ⟨rfl,F2,hC2,hc2,hd2,x2,y2,hx2,hy2,ho2,hq2,hs2⟩
 have hm:∀ q,c = .rd q→∃ q',(c.aE 5) = .rd q':=by rintro q rfl;exact⟨_,rfl⟩
 have H2:=ae (And.intro hC2 (And.intro hc2 (And.intro hd2 (And.intro hx2 (And.intro hy2 (And.intro (ho2.mode (w0:=w) (c:=c) (aa H1).size hm) (And.intro (hq2.mode (w0:=w) (c:=c) (aa H1).size hm) (((aa H1).mono (fun _ _ _ h=>h.elim)).trans hs2 (fun _ _ _ h=>h)))))))))
 clear hC2 hc2 hd2 hx2 hy2 ho2 hq2 hs2 hm
 go_wp2_with fail
 go_end0
 obtain⟨a1,a2,a3,a4,a5,a6,a7,a8⟩:=aa H2
 exact⟨rfl,F2,a1,a2,a3,x2,y2,a4,a5,a6,a7,a8⟩
theorem mB (q:Q) (cb b g:Nat) (F:Nat→Prop) (E:Nat→Addr) (w:World) (h:Cd w cb b F (.rd q) E) (hp:w.cell? ⟨g,0,none⟩=some (.slice none 0 0)) (hL:Loc w cb F g 0) :
  Calls Tryz.prog 68 #[.pointer (some ⟨cb,0,none⟩),.iface 215 (.pointer (some ⟨g,0,none⟩))] w fun e w'=>e = .returned (.tuple #[])∧∃ F',Cd w' cb b F' (((CS.rd q).aE 6).fD []).1 E∧∃ x,w'.cell? ⟨g,0,none⟩=some x∧iD w' w.heap.size x (((CS.rd q).aE 6).fD []).2 F'∧ar w w' F F' (fun k j=>k=g∧j=0):=by
 have t0:=Tryz.wE
 have t1:=Tryz.j5
 have t2:=Tryz.kA
 have t3:=Tryz.la
 have t4:=Tryz.mU
 have t5:=Tryz.kB
 have HF:=ae (eZ (.rd q) 6 cb b F E w h (by decide) (by simp only[CS.room,CS.len];omega))
 have hgl:=hL.lt
 have hgF:=hL.nF
 have H:=ae hL
 clear h hL
 go_enter Tryz.func68,Tryz.ntmps68
 go_wp2_with fail
 refine(aa HF).mono ?_
 rintro e w1 ⟨rfl,F1,hC1,hs1⟩
 have HH:=ae (yX _ cb b g 0 F1 E w1 hC1 ((hs1.oth g 0 hgl hgF (fun h=>h)).trans hp) ((aa H).aP hs1))
 have H1:=ae hs1
 clear hC1 hs1
 go_wp2_with fail
 refine(aa HH).mono ?_
 rintro e w2 ⟨rfl,F2,hC2,x,hx,hO,hs2⟩
 have H2:=ae (And.intro hC2 (And.intro hx (And.intro (hO.base (aa H1).size) (((aa H1).mono (fun _ _ _ h=>h.elim)).trans hs2 (fun _ _ _ h=>h)))))
 clear hC2 hs2 hx hO
 go_wp2_with fail
 go_end0
 exact⟨rfl,F2,(aa H2).1,x,(aa H2).2.1,(aa H2).2.2.1,(aa H2).2.2.2⟩
def Wq.out (s:Wq):List Nat:=if s.f=none then s.l else []
theorem kX (s:Wq) (b:Nat) (F:Nat→Prop) (E:Nat→Addr) (w:World) (h:W w b F (s.eA E)) (hok:s.ok) (hl:s.l.length≤140737488355328) :
  Calls Tryz.prog 69 #[.pointer (some ⟨b,0,none⟩)] w fun e w'=>∃ v err,e = .returned (.tuple #[v,err])∧w'.ownsRow w.heap.size 5 1 v s.out.length (cellsOf s.out)∧df w' err (dn s.f) E∧Fr (fun _=>False) w w':=by
 obtain⟨nm,l,f⟩:=s
 cases f with
 | none =>
  refine(xb b F _ w h rfl hl).mono ?_
  rintro e w' ⟨v,rfl,hown,hf⟩
  exact⟨v,.nilIface,rfl,hown,.inl ⟨rfl,rfl⟩,hf⟩
 | some y =>
  refine(uM b F _ y.1 y.2.1 (E y.2.2) w h rfl).mono ?_
  rintro e w' ⟨rfl,rfl⟩
  exact⟨.slice none 0 0,_,rfl,World.ownsRow_nil _ _ _ _,.inr ⟨(hok y rfl).1,(hok y rfl).2,_,rfl,heap_alloc_new _ _⟩,al w _⟩
theorem xF (vs:Array Value) (s':Wq) (E:Nat→Addr) (w:World) (hg:G6 w E) (hw:9≤w.heap.size)
  (hwhole:∀ w1 cb b F,Cd w1 cb b F (.wr ⟨ByteArray.empty,[],none⟩) E→(∀ (i:Nat) v,vs[i]?=some v→w1.cell? ⟨w.heap.size,i,none⟩=some v)→(∀ i,Loc w1 cb F w.heap.size i)→(∀ k,F k→w.heap.size<k)→Fr (fun _=>False) w w1→Calls Tryz.prog 68 #[.pointer (some ⟨cb,0,none⟩),.iface 173 (.pointer (some ⟨w.heap.size,0,none⟩))] w1 fun e w'=>e = .returned (.tuple #[])∧∃ F',Cd w' cb b F' (.wr s') E∧ar w1 w' F F' (fun k _=>k=w.heap.size)) (hlen:s'.l.length≤140737488355328) :
  Calls Tryz.prog 47 #[.agg vs] w fun e w'=>∃ v err,e = .returned (.tuple #[v,err])∧w'.ownsRow w.heap.size 5 1 v s'.out.length (cellsOf s'.out)∧df w' err (dn s'.f) E∧Fr (fun _=>False) w w':=by
 have hbx:=al w (.cells vs 25)
 have HN:=ae (dY (w.alloc (.cells vs 25)) (by simp;omega))
 have H:=ae (And.intro hg (And.intro hwhole hbx))
 clear hg hwhole hbx
 go_enter Tryz.func47,Tryz.ntmps47
 go_wp2_with fail
 refine(aa HN).mono ?_
 rintro e w1 ⟨rfl,hW1,hf1⟩
 have H1:=ae (And.intro hW1 hf1)
 clear hW1 hf1
 go_wp2_with fail
 obtain⟨W2,hW2⟩:∃ W2,w1.alloc (.cells #[.pointer (some ⟨w.heap.size+1,0,none⟩),.pointer none] 143)=W2:=⟨_,rfl⟩
 have hf12:Fr (fun _=>False) w1 W2:=by rw[← hW2];exact al _ _
 have hs0:(w.alloc (.cells vs 25)).heap.size=w.heap.size+1:=by simp
 have hf02:Fr (fun _=>False) w W2:=((aa H).2.2.trans (aa H1).2 (fun _ _ h=>h)).trans hf12 (fun _ _ h=>h)
 have hW1:=(aa H1).1
 rw[hs0] at hW1
 have hs1:=(aa H1).2.size
 have hlt1:=hW1.lt (w.heap.size+1) rfl
 have hsz2:W2.heap.size=w1.heap.size+1:=by rw[← hW2];simp
 have hC2:Cd W2 w1.heap.size (w.heap.size+1) (fun k=>k=w.heap.size+1) (.wr ⟨ByteArray.empty,[],none⟩) E:=by
  refine⟨(aa H).1.fr hf02 (fun _ h=>h.elim),fun hx=>by omega,fun k hk=>by omega,fun k hk=>by omega,by omega,?_,?_,W.frame hW1 hf12 (fun _ _ h=>h),fun y hy=>by cases hy⟩
  ·rw[← hW2,World.cell?_alloc_at _ _ _ _ rfl];rfl
  ·rw[← hW2,World.cell?_alloc_at _ _ _ _ rfl];rfl
 have hcs:∀ (i:Nat) v,vs[i]?=some v→W2.cell? ⟨w.heap.size,i,none⟩=some v:=fun i v hv=>by
  refine(((aa H1).2.trans hf12 (fun _ _ h=>h)).cell (p:=⟨w.heap.size,i,none⟩) (by simp) (fun h=>h)).trans ?_
  rw[World.cell?_alloc_at _ _ _ _ rfl];exact hv
 have hLo:∀ i,Loc W2 w1.heap.size (fun k=>k=w.heap.size+1) w.heap.size i:=fun i =>
  ⟨(((aa H1).2.trans hf12 (fun _ _ h=>h)).frozen (p:=⟨w.heap.size,i,none⟩) (by simp) (fun h=>h)).trans (by simp),by omega,by omega,by omega,by omega⟩
 have HW:=ae ((aa H).2.1 W2 w1.heap.size (w.heap.size+1) _ hC2 hcs hLo (fun k hk=>by omega) hf02)
 have hx2:=Nat.le_of_lt hlt1
 have H2:=ae (And.intro hf02 (And.intro hsz2 hlt1))
 clear hC2 hf02 hLo hsz2 hcs hf12 hW1 hs1 hs0 hlt1 hx2
 rw[hW2]
 clear hW2
 refine(aa HW).mono ?_
 rintro e w3 ⟨rfl,F3,hC3,hs3⟩
 have h0:w3.cell? ⟨w1.heap.size,0,none⟩=some (.pointer (some ⟨w.heap.size+1,0,none⟩)):=hC3.c0
 have hl0:=ab h0
 have hf03:Fr (fun _=>False) w w3:=((aa H2).1.mono (fun _ _ h=>h)).trans hs3.fr (fun k hk hx=>by rcases hx with hx|⟨_,hx⟩ <;> omega)
 have HD:=ae (kX s' (w.heap.size+1) F3 E w3 hC3.st hC3.ot hlen)
 have H3:=ae hf03
 clear hC3 hs3 hf03
 go_wp2_with fail
 refine(aa HD).mono ?_
 rintro e w4 ⟨v,err,rfl,hown,hE,hf4⟩
 have H4:=ae (And.intro (aH hown (aa H3).size) (And.intro hE ((aa H3).trans hf4 (fun _ _ h=>h))))
 clear hown hE hf4
 go_wp2_with fail
 go_ret2
 exact⟨v,err,rfl,(aa H4).1,(aa H4).2.1,(aa H4).2.2⟩
theorem qX (vs:Array Value) (s':Wq) (E:Nat→Addr) (w:World) (hg:G6 w E) (hw:9≤w.heap.size)
  (hwhole:∀ w1 cb b F,Cd w1 cb b F (.wr ⟨ByteArray.empty,[],none⟩) E→(∀ (i:Nat) v,vs[i]?=some v→w1.cell? ⟨w.heap.size,i,none⟩=some v)→(∀ i,Loc w1 cb F w.heap.size i)→(∀ k,F k→w.heap.size<k)→Fr (fun _=>False) w w1→Calls Tryz.prog 68 #[.pointer (some ⟨cb,0,none⟩),.iface 157 (.pointer (some ⟨w.heap.size,0,none⟩))] w1 fun e w'=>e = .returned (.tuple #[])∧∃ F',Cd w' cb b F' (.wr s') E∧ar w1 w' F F' (fun k _=>k=w.heap.size)) (hlen:s'.l.length≤140737488355328) :
  Calls Tryz.prog 29 #[.agg vs] w fun e w'=>∃ v err,e = .returned (.tuple #[v,err])∧w'.ownsRow w.heap.size 5 1 v s'.out.length (cellsOf s'.out)∧df w' err (dn s'.f) E∧Fr (fun _=>False) w w':=by
 have hbx:=al w (.cells vs 30)
 have HN:=ae (dY (w.alloc (.cells vs 30)) (by simp;omega))
 have H:=ae (And.intro hg (And.intro hwhole hbx))
 clear hg hwhole hbx
 go_enter Tryz.func29,Tryz.ntmps29
 go_wp2_with fail
 refine(aa HN).mono ?_
 rintro e w1 ⟨rfl,hW1,hf1⟩
 have H1:=ae (And.intro hW1 hf1)
 clear hW1 hf1
 go_wp2_with fail
 obtain⟨W2,hW2⟩:∃ W2,w1.alloc (.cells #[.pointer (some ⟨w.heap.size+1,0,none⟩),.pointer none] 143)=W2:=⟨_,rfl⟩
 have hf12:Fr (fun _=>False) w1 W2:=by rw[← hW2];exact al _ _
 have hs0:(w.alloc (.cells vs 30)).heap.size=w.heap.size+1:=by simp
 have hf02:Fr (fun _=>False) w W2:=((aa H).2.2.trans (aa H1).2 (fun _ _ h=>h)).trans hf12 (fun _ _ h=>h)
 have hW1:=(aa H1).1
 rw[hs0] at hW1
 have hs1:=(aa H1).2.size
 have hlt1:=hW1.lt (w.heap.size+1) rfl
 have hsz2:W2.heap.size=w1.heap.size+1:=by rw[← hW2];simp
 have hC2:Cd W2 w1.heap.size (w.heap.size+1) (fun k=>k=w.heap.size+1) (.wr ⟨ByteArray.empty,[],none⟩) E:=by
  refine⟨(aa H).1.fr hf02 (fun _ h=>h.elim),fun hx=>by omega,fun k hk=>by omega,fun k hk=>by omega,by omega,?_,?_,W.frame hW1 hf12 (fun _ _ h=>h),fun y hy=>by cases hy⟩
  ·rw[← hW2,World.cell?_alloc_at _ _ _ _ rfl];rfl
  ·rw[← hW2,World.cell?_alloc_at _ _ _ _ rfl];rfl
 have hcs:∀ (i:Nat) v,vs[i]?=some v→W2.cell? ⟨w.heap.size,i,none⟩=some v:=fun i v hv=>by
  refine(((aa H1).2.trans hf12 (fun _ _ h=>h)).cell (p:=⟨w.heap.size,i,none⟩) (by simp) (fun h=>h)).trans ?_
  rw[World.cell?_alloc_at _ _ _ _ rfl];exact hv
 have hLo:∀ i,Loc W2 w1.heap.size (fun k=>k=w.heap.size+1) w.heap.size i:=fun i =>
  ⟨(((aa H1).2.trans hf12 (fun _ _ h=>h)).frozen (p:=⟨w.heap.size,i,none⟩) (by simp) (fun h=>h)).trans (by simp),by omega,by omega,by omega,by omega⟩
 have HW:=ae ((aa H).2.1 W2 w1.heap.size (w.heap.size+1) _ hC2 hcs hLo (fun k hk=>by omega) hf02)
 have hx2:=Nat.le_of_lt hlt1
 have H2:=ae (And.intro hf02 (And.intro hsz2 hlt1))
 clear hC2 hf02 hLo hsz2 hcs hf12 hW1 hs1 hs0 hlt1 hx2
 rw[hW2]
 clear hW2
 refine(aa HW).mono ?_
 rintro e w3 ⟨rfl,F3,hC3,hs3⟩
 have h0:w3.cell? ⟨w1.heap.size,0,none⟩=some (.pointer (some ⟨w.heap.size+1,0,none⟩)):=hC3.c0
 have hl0:=ab h0
 have hf03:Fr (fun _=>False) w w3:=((aa H2).1.mono (fun _ _ h=>h)).trans hs3.fr (fun k hk hx=>by rcases hx with hx|⟨_,hx⟩ <;> omega)
 have HD:=ae (kX s' (w.heap.size+1) F3 E w3 hC3.st hC3.ot hlen)
 have H3:=ae hf03
 clear hC3 hs3 hf03
 go_wp2_with fail
 refine(aa HD).mono ?_
 rintro e w4 ⟨v,err,rfl,hown,hE,hf4⟩
 have H4:=ae (And.intro (aH hown (aa H3).size) (And.intro hE ((aa H3).trans hf4 (fun _ _ h=>h))))
 clear hown hE hf4
 go_wp2_with fail
 go_ret2
 exact⟨v,err,rfl,(aa H4).1,(aa H4).2.1,(aa H4).2.2⟩
theorem sE (vs:Array Value) (s':Wq) (E:Nat→Addr) (w:World) (hg:G6 w E) (hw:9≤w.heap.size)
  (hwhole:∀ w1 cb b F,Cd w1 cb b F (.wr ⟨ByteArray.empty,[],none⟩) E→(∀ (i:Nat) v,vs[i]?=some v→w1.cell? ⟨w.heap.size,i,none⟩=some v)→(∀ i,Loc w1 cb F w.heap.size i)→(∀ k,F k→w.heap.size<k)→Fr (fun _=>False) w w1→Calls Tryz.prog 68 #[.pointer (some ⟨cb,0,none⟩),.iface 158 (.pointer (some ⟨w.heap.size,0,none⟩))] w1 fun e w'=>e = .returned (.tuple #[])∧∃ F',Cd w' cb b F' (.wr s') E∧ar w1 w' F F' (fun k _=>k=w.heap.size)) (hlen:s'.l.length≤140737488355328) :
  Calls Tryz.prog 30 #[.agg vs] w fun e w'=>∃ v err,e = .returned (.tuple #[v,err])∧w'.ownsRow w.heap.size 5 1 v s'.out.length (cellsOf s'.out)∧df w' err (dn s'.f) E∧Fr (fun _=>False) w w':=by
 have hbx:=al w (.cells vs 33)
 have HN:=ae (dY (w.alloc (.cells vs 33)) (by simp;omega))
 have H:=ae (And.intro hg (And.intro hwhole hbx))
 clear hg hwhole hbx
 go_enter Tryz.func30,Tryz.ntmps30
 go_wp2_with fail
 refine(aa HN).mono ?_
 rintro e w1 ⟨rfl,hW1,hf1⟩
 have H1:=ae (And.intro hW1 hf1)
 clear hW1 hf1
 go_wp2_with fail
 obtain⟨W2,hW2⟩:∃ W2,w1.alloc (.cells #[.pointer (some ⟨w.heap.size+1,0,none⟩),.pointer none] 143)=W2:=⟨_,rfl⟩
 have hf12:Fr (fun _=>False) w1 W2:=by rw[← hW2];exact al _ _
 have hs0:(w.alloc (.cells vs 33)).heap.size=w.heap.size+1:=by simp
 have hf02:Fr (fun _=>False) w W2:=((aa H).2.2.trans (aa H1).2 (fun _ _ h=>h)).trans hf12 (fun _ _ h=>h)
 have hW1:=(aa H1).1
 rw[hs0] at hW1
 have hs1:=(aa H1).2.size
 have hlt1:=hW1.lt (w.heap.size+1) rfl
 have hsz2:W2.heap.size=w1.heap.size+1:=by rw[← hW2];simp
 have hC2:Cd W2 w1.heap.size (w.heap.size+1) (fun k=>k=w.heap.size+1) (.wr ⟨ByteArray.empty,[],none⟩) E:=by
  refine⟨(aa H).1.fr hf02 (fun _ h=>h.elim),fun hx=>by omega,fun k hk=>by omega,fun k hk=>by omega,by omega,?_,?_,W.frame hW1 hf12 (fun _ _ h=>h),fun y hy=>by cases hy⟩
  ·rw[← hW2,World.cell?_alloc_at _ _ _ _ rfl];rfl
  ·rw[← hW2,World.cell?_alloc_at _ _ _ _ rfl];rfl
 have hcs:∀ (i:Nat) v,vs[i]?=some v→W2.cell? ⟨w.heap.size,i,none⟩=some v:=fun i v hv=>by
  refine(((aa H1).2.trans hf12 (fun _ _ h=>h)).cell (p:=⟨w.heap.size,i,none⟩) (by simp) (fun h=>h)).trans ?_
  rw[World.cell?_alloc_at _ _ _ _ rfl];exact hv
 have hLo:∀ i,Loc W2 w1.heap.size (fun k=>k=w.heap.size+1) w.heap.size i:=fun i =>
  ⟨(((aa H1).2.trans hf12 (fun _ _ h=>h)).frozen (p:=⟨w.heap.size,i,none⟩) (by simp) (fun h=>h)).trans (by simp),by omega,by omega,by omega,by omega⟩
 have HW:=ae ((aa H).2.1 W2 w1.heap.size (w.heap.size+1) _ hC2 hcs hLo (fun k hk=>by omega) hf02)
 have hx2:=Nat.le_of_lt hlt1
 have H2:=ae (And.intro hf02 (And.intro hsz2 hlt1))
 clear hC2 hf02 hLo hsz2 hcs hf12 hW1 hs1 hs0 hlt1 hx2
 rw[hW2]
 clear hW2
 refine(aa HW).mono ?_
 rintro e w3 ⟨rfl,F3,hC3,hs3⟩
 have h0:w3.cell? ⟨w1.heap.size,0,none⟩=some (.pointer (some ⟨w.heap.size+1,0,none⟩)):=hC3.c0
 have hl0:=ab h0
 have hf03:Fr (fun _=>False) w w3:=((aa H2).1.mono (fun _ _ h=>h)).trans hs3.fr (fun k hk hx=>by rcases hx with hx|⟨_,hx⟩ <;> omega)
 have HD:=ae (kX s' (w.heap.size+1) F3 E w3 hC3.st hC3.ot hlen)
 have H3:=ae hf03
 clear hC3 hs3 hf03
 go_wp2_with fail
 refine(aa HD).mono ?_
 rintro e w4 ⟨v,err,rfl,hown,hE,hf4⟩
 have H4:=ae (And.intro (aH hown (aa H3).size) (And.intro hE ((aa H3).trans hf4 (fun _ _ h=>h))))
 clear hown hE hf4
 go_wp2_with fail
 go_ret2
 exact⟨v,err,rfl,(aa H4).1,(aa H4).2.1,(aa H4).2.2⟩
theorem pY (vs:Array Value) (s':Wq) (E:Nat→Addr) (w:World) (hg:G6 w E) (hw:9≤w.heap.size)
  (hwhole:∀ w1 cb b F,Cd w1 cb b F (.wr ⟨ByteArray.empty,[],none⟩) E→(∀ (i:Nat) v,vs[i]?=some v→w1.cell? ⟨w.heap.size,i,none⟩=some v)→(∀ i,Loc w1 cb F w.heap.size i)→(∀ k,F k→w.heap.size<k)→Fr (fun _=>False) w w1→Calls Tryz.prog 68 #[.pointer (some ⟨cb,0,none⟩),.iface 145 (.pointer (some ⟨w.heap.size,0,none⟩))] w1 fun e w'=>e = .returned (.tuple #[])∧∃ F',Cd w' cb b F' (.wr s') E∧ar w1 w' F F' (fun k _=>k=w.heap.size)) (hlen:s'.l.length≤140737488355328) :
  Calls Tryz.prog 26 #[.agg vs] w fun e w'=>∃ v err,e = .returned (.tuple #[v,err])∧w'.ownsRow w.heap.size 5 1 v s'.out.length (cellsOf s'.out)∧df w' err (dn s'.f) E∧Fr (fun _=>False) w w':=by
 have hbx:=al w (.cells vs 42)
 have HN:=ae (dY (w.alloc (.cells vs 42)) (by simp;omega))
 have H:=ae (And.intro hg (And.intro hwhole hbx))
 clear hg hwhole hbx
 go_enter Tryz.func26,Tryz.ntmps26
 go_wp2_with fail
 refine(aa HN).mono ?_
 rintro e w1 ⟨rfl,hW1,hf1⟩
 have H1:=ae (And.intro hW1 hf1)
 clear hW1 hf1
 go_wp2_with fail
 obtain⟨W2,hW2⟩:∃ W2,w1.alloc (.cells #[.pointer (some ⟨w.heap.size+1,0,none⟩),.pointer none] 143)=W2:=⟨_,rfl⟩
 have hf12:Fr (fun _=>False) w1 W2:=by rw[← hW2];exact al _ _
 have hs0:(w.alloc (.cells vs 42)).heap.size=w.heap.size+1:=by simp
 have hf02:Fr (fun _=>False) w W2:=((aa H).2.2.trans (aa H1).2 (fun _ _ h=>h)).trans hf12 (fun _ _ h=>h)
 have hW1:=(aa H1).1
 rw[hs0] at hW1
 have hs1:=(aa H1).2.size
 have hlt1:=hW1.lt (w.heap.size+1) rfl
 have hsz2:W2.heap.size=w1.heap.size+1:=by rw[← hW2];simp
 have hC2:Cd W2 w1.heap.size (w.heap.size+1) (fun k=>k=w.heap.size+1) (.wr ⟨ByteArray.empty,[],none⟩) E:=by
  refine⟨(aa H).1.fr hf02 (fun _ h=>h.elim),fun hx=>by omega,fun k hk=>by omega,fun k hk=>by omega,by omega,?_,?_,W.frame hW1 hf12 (fun _ _ h=>h),fun y hy=>by cases hy⟩
  ·rw[← hW2,World.cell?_alloc_at _ _ _ _ rfl];rfl
  ·rw[← hW2,World.cell?_alloc_at _ _ _ _ rfl];rfl
 have hcs:∀ (i:Nat) v,vs[i]?=some v→W2.cell? ⟨w.heap.size,i,none⟩=some v:=fun i v hv=>by
  refine(((aa H1).2.trans hf12 (fun _ _ h=>h)).cell (p:=⟨w.heap.size,i,none⟩) (by simp) (fun h=>h)).trans ?_
  rw[World.cell?_alloc_at _ _ _ _ rfl];exact hv
 have hLo:∀ i,Loc W2 w1.heap.size (fun k=>k=w.heap.size+1) w.heap.size i:=fun i =>
  ⟨(((aa H1).2.trans hf12 (fun _ _ h=>h)).frozen (p:=⟨w.heap.size,i,none⟩) (by simp) (fun h=>h)).trans (by simp),by omega,by omega,by omega,by omega⟩
 have HW:=ae ((aa H).2.1 W2 w1.heap.size (w.heap.size+1) _ hC2 hcs hLo (fun k hk=>by omega) hf02)
 have hx2:=Nat.le_of_lt hlt1
 have H2:=ae (And.intro hf02 (And.intro hsz2 hlt1))
 clear hC2 hf02 hLo hsz2 hcs hf12 hW1 hs1 hs0 hlt1 hx2
 rw[hW2]
 clear hW2
 refine(aa HW).mono ?_
 rintro e w3 ⟨rfl,F3,hC3,hs3⟩
 have h0:w3.cell? ⟨w1.heap.size,0,none⟩=some (.pointer (some ⟨w.heap.size+1,0,none⟩)):=hC3.c0
 have hl0:=ab h0
 have hf03:Fr (fun _=>False) w w3:=((aa H2).1.mono (fun _ _ h=>h)).trans hs3.fr (fun k hk hx=>by rcases hx with hx|⟨_,hx⟩ <;> omega)
 have HD:=ae (kX s' (w.heap.size+1) F3 E w3 hC3.st hC3.ot hlen)
 have H3:=ae hf03
 clear hC3 hs3 hf03
 go_wp2_with fail
 refine(aa HD).mono ?_
 rintro e w4 ⟨v,err,rfl,hown,hE,hf4⟩
 have H4:=ae (And.intro (aH hown (aa H3).size) (And.intro hE ((aa H3).trans hf4 (fun _ _ h=>h))))
 clear hown hE hf4
 go_wp2_with fail
 go_ret2
 exact⟨v,err,rfl,(aa H4).1,(aa H4).2.1,(aa H4).2.2⟩
def Q.fin (q:Q):ByteArray × Nat × Nat:=(q.named bk).ended
theorem wZ (x:Value) (l:List Nat) (q':Q) (Res:World→(Nat→Prop)→Nat→Array Value→Prop) (E:Nat→Addr) (w:World) (hg:G6 w E) (hw:9≤w.heap.size) (hx:Src w x l) (hl:l.length≤140737488355328)
  (hst:∀ w2 w' F F' P g vs,Res w2 F g vs→ar w2 w' F F' P→(∀ k j,P k j→k=w.heap.size)→Res w' F' g vs)
  (hwhole:∀ w1 cb b F g,Cd w1 cb b F (.rd ⟨ByteArray.empty,l,0,0,none⟩) E→w1.cell? ⟨g,0,none⟩=some (.int .u32 0)→w1.cell? ⟨g,1,none⟩=some (.slice none 0 0)→(∀ i,Loc w1 cb F g i)→(∀ k,F k→w.heap.size<k)→w.heap.size<g→Fr (fun _=>False) w w1→Calls Tryz.prog 68 #[.pointer (some ⟨cb,0,none⟩),.iface 173 (.pointer (some ⟨g,0,none⟩))] w1 fun e w'=>e = .returned (.tuple #[])∧∃ F',Cd w' cb b F' (.rd q') E∧∃ v0 v1,w'.cell? ⟨g,0,none⟩=some v0∧w'.cell? ⟨g,1,none⟩=some v1∧(∀ v∈([v0,v1]:List Value),v.oneCell'=true)∧Res w' F' g #[v0,v1]∧ar w1 w' F F' (fun k _=>k=g)) :
  Calls Tryz.prog 48 #[x] w fun e w'=>∃ vs err,e = .returned (.tuple #[.agg vs,err])∧df w' err q'.fin E∧(q'.fin.2.2≠0→vs = #[.int .u32 0,.slice none 0 0])∧(q'.fin.2.2=0→∃ F' g,Res w' F' g vs∧w.heap.size≤g)∧Fr (fun _=>False) w w':=by
 obtain⟨xo,xc,rfl⟩:=hx.form
 have hbx:=al w (.cells #[.int .u32 0,.slice none 0 0] 25)
 have HN:=ae (du _ l (w.alloc (.cells #[.int .u32 0,.slice none 0 0] 25)) (by simp;omega) (hx.fr hbx (fun _ _ _ _ _ h=>h)) hl)
 have H:=ae (And.intro hg (And.intro hst hwhole))
 have HB:=ae hbx
 clear hg hst hwhole hx hbx
 go_enter Tryz.func48,Tryz.ntmps48
 go_wp2_with fail
 refine(aa HN).mono ?_
 rintro e w1 ⟨b,F,rfl,hR1,hf1',hF1'⟩
 have hf1:Fr (fun _=>False) w w1:=(aa HB).trans hf1' (fun _ _ h=>h)
 have hF1:∀ k,F k→w.heap.size<k:=fun k hk=>by have:=hF1' k hk;simp at this;omega
 have hr0:w1.cell? ⟨w.heap.size,0,none⟩=some (.int .u32 0):=(hf1'.cell (p:=⟨w.heap.size,0,none⟩) (by simp) (fun h=>h)).trans (by simp)
 have hrz:∀ i,w1.frozen? ⟨w.heap.size,i,none⟩=false:=fun i=>(hf1'.frozen (p:=⟨w.heap.size,i,none⟩) (by simp) (fun h=>h)).trans (by simp)
 have hrb:w1.heap[w.heap.size]?=some (.cells #[.int .u32 0,.slice none 0 0] 25):=(hf1'.block w.heap.size (by simp) (fun h=>h)).trans (heap_alloc_new _ _)
 have hrl:=ab hr0
 clear hf1' hF1'
 have hbl:=hR1.lt b hR1.fb
 have H1:=ae (And.intro hR1 (And.intro hf1 hF1))
 clear hR1 hf1 hF1
 go_wp2_with fail
 obtain⟨W2,hW2⟩:∃ W2,((w1.alloc (.cells #[.pointer none,.pointer (some ⟨b,0,none⟩)] 143)).alloc (.cells #[.int .u32 0,.slice none 0 0] 25)).alloc (.cells #[.int .u32 0,.slice none 0 0] 25)=W2:=⟨_,rfl⟩
 have hf12:Fr (fun _=>False) w1 W2:=by rw[← hW2];exact aI _ _ _ _
 have HF12:=ae hf12
 have hf02:=(aa H1).2.1.trans hf12 (fun _ _ h=>h)
 have hsz2:W2.heap.size=w1.heap.size+3:=by rw[← hW2];simp
 have hC2:Cd W2 w1.heap.size b F (.rd ⟨ByteArray.empty,l,0,0,none⟩) E:=by
  have hb1:=(aa H1).1.lt
  have hw1:=(aa H1).2.1.size
  refine⟨(aa H).1.fr hf02 (fun _ h=>h.elim),fun hx=>by have:=hb1 _ hx;omega,fun k hk=>by have:=hb1 k hk;omega,(aa H1).1.lo,by omega,?_,?_,⟨(aa H1).1.frame hf12 (fun _ _ h=>h),⟨Nat.zero_le _,Nat.zero_le _,fun y hy=>by cases hy⟩,hl⟩,trivial⟩
  ·rw[← hW2,World.cell?_alloc_past _ _ _ (by simp;omega),World.cell?_alloc_past _ _ _ (by simp),World.cell?_alloc_at _ _ _ _ (by simp)];rfl
  ·rw[← hW2,World.cell?_alloc_past _ _ _ (by simp;omega),World.cell?_alloc_past _ _ _ (by simp),World.cell?_alloc_at _ _ _ _ (by simp)];rfl
 have hcs:∀ (i:Nat) v,(#[.int .u32 0,.slice none 0 0]:Array Value)[i]?=some v→W2.cell? ⟨w1.heap.size+1,i,none⟩=some v:=fun i v hv=>by
  rw[← hW2,World.cell?_alloc_past _ _ _ (by simp),World.cell?_alloc_at _ _ _ _ (by simp)];exact hv
 have hnn:∀ (i:Nat) v,(#[.int .u32 0,.slice none 0 0]:Array Value)[i]?=some v→W2.cell? ⟨w1.heap.size+1+1,i,none⟩=some v:=fun i v hv=>by
  rw[← hW2,World.cell?_alloc_at _ _ _ _ (by simp)];exact hv
 have hLo:∀ i,Loc W2 w1.heap.size F (w1.heap.size+1) i:=fun i=>by
  have hb1:=(aa H1).1.lt
  have hw1:=(aa H1).2.1.size
  exact⟨(((by rw[← hW2];exact al _ _):Fr (fun _=>False) ((w1.alloc (.cells #[.pointer none,.pointer (some ⟨b,0,none⟩)] 143)).alloc (.cells #[.int .u32 0,.slice none 0 0] 25)) W2).frozen (p:=⟨w1.heap.size+1,i,none⟩) (by simp) (fun h=>h)).trans (by simp),by omega,fun hx=>by have:=hb1 _ hx;omega,by omega,by omega⟩
 have HW:=ae ((aa H).2.2 W2 w1.heap.size b F (w1.heap.size+1) hC2 (hcs 0 _ rfl) (hcs 1 _ rfl) hLo (aa H1).2.2 (by omega) hf02)
 have H2:=ae (And.intro hf02 (And.intro hnn hsz2))
 clear hC2 hf02 hLo hsz2 hcs hf12 hnn
 rw[hW2]
 clear hW2
 refine(aa HW).mono ?_
 rintro e w3 ⟨rfl,F3,hC3,v0,v1,hv0,hv1,hone,hRes,hs3⟩
 have hst0:∀ (a:Addr) (m:Mode) (W:World),(store a v0 m).run Tryz.prog W=stored Tryz.prog W a v0 m:=fun _ _ _=>run_store _ _ _ _ _ (hone v0 (by simp))
 have hst1:∀ (a:Addr) (m:Mode) (W:World),(store a v1 m).run Tryz.prog W=stored Tryz.prog W a v1 m:=fun _ _ _=>run_store _ _ _ _ _ (hone v1 (by simp))
 clear hone
 have h1:w3.cell? ⟨w1.heap.size,1,none⟩=some (.pointer (some ⟨b,0,none⟩)):=hC3.c1
 have hl1:=ab h1
 obtain⟨hf02,hnn,hsz2⟩:=aa H2
 have hFb:∀ k,F k→k<w1.heap.size:=(aa H1).1.lt
 have hne:∀ i,w3.cell? ⟨w1.heap.size+1+1,i,none⟩=W2.cell? ⟨w1.heap.size+1+1,i,none⟩:=fun i=>hs3.oth (w1.heap.size+1+1) i (by omega) (fun hx=>by have:=hFb _ hx;omega) (fun h=>by omega)
 have hn0:=(hne 0).trans (hnn 0 _ rfl)
 have hn1:=(hne 1).trans (hnn 1 _ rfl)
 have hrF:¬ F w.heap.size:=fun hx=>by have:=(aa H1).2.2 _ hx;omega
 have hrb3:w3.heap[w.heap.size]?=some (.cells #[.int .u32 0,.slice none 0 0] 25):=(hs3.block (by omega) hrF (fun i h=>by omega)).trans ((aa HF12).block _ hrl (fun h=>h) |>.trans hrb)
 have hf03:Fr (fun _=>False) w w3:=hf02.trans hs3.fr (fun k hk hx=>hx.elim (fun hx=>by have:=(aa H1).2.2 k hx;omega) (fun ⟨_,hx⟩=>by omega))
 have hst3:R w3 b F3 (q'.dH E)∧q'.ok∧q'.all.length≤140737488355328:=hC3.st
 have HD:=ae (cm q' bk b F3 E w3 hst3.1)
 have H3:=ae (And.intro hC3 (And.intro hs3 (And.intro hRes (And.intro hf03 (And.intro hst3.2.1 hrF)))))
 clear hC3 hs3 hRes hf03 hst3 hrF hf02 hnn hsz2 hFb hne
 go_wp2_with fail
 refine(aa HD).mono ?_
 rintro e w4 ⟨rfl,hR4,hch4⟩
 have hgF3:=(aa H3).2.1.nF (by have:=(aa H2).2.2;omega) (show ¬ F (w1.heap.size+1) from fun hx=>by have:=(aa H1).1.lt _ hx;omega)
 have hnF3:=(aa H3).2.1.nF (by have:=(aa H2).2.2;omega) (show ¬ F (w1.heap.size+1+1) from fun hx=>by have:=(aa H1).1.lt _ hx;omega)
 have hcF3:=(aa H3).1.nf
 have hv04:=(hch4.fr.cell (p:=⟨w1.heap.size+1,0,none⟩) (ab hv0) hgF3).trans hv0
 have hv14:=(hch4.fr.cell (p:=⟨w1.heap.size+1,1,none⟩) (ab hv1) hgF3).trans hv1
 have hn04:=(hch4.fr.cell (p:=⟨w1.heap.size+1+1,0,none⟩) (ab hn0) hnF3).trans hn0
 have hn14:=(hch4.fr.cell (p:=⟨w1.heap.size+1+1,1,none⟩) (ab hn1) hnF3).trans hn1
 have h14:w4.cell? ⟨w1.heap.size,1,none⟩=some (.pointer (some ⟨b,0,none⟩)):=(hch4.fr.cell (p:=⟨w1.heap.size,1,none⟩) hl1 hcF3).trans h1
 have hrb4:w4.heap[w.heap.size]?=some (.cells #[.int .u32 0,.slice none 0 0] 25):=(hch4.fr.block w.heap.size (by omega) ((aa H3).2.1.nF (by have:=(aa H2).2.2;omega) (aa H3).2.2.2.2.2)).trans hrb3
 have HE:=ae (gu (q'.named bk) b F3 E w4 hR4 (Q.bt (aa H3).2.2.2.2.1 bk) ((aa H3).1.g7.fr hch4.fr (aa H3).1.lo).gl)
 have hs4:ar w3 w4 F3 F3 (fun _ _=>False):=ar.cY hch4 _
 have hf04:Fr (fun _=>False) w w4:=(aa H3).2.2.2.1.trans hch4.fr (fun k hk hx=>by
  rcases(aa H3).2.1.new k hx with h|h
  ·have:=(aa H1).2.2 k h;omega
  ·have:=(aa H1).2.1.size;have:=(aa H2).2.2;omega)
 have H4:=ae (And.intro hs4 hf04)
 clear hR4 hch4 hs4 hf04 hgF3 hnF3 hcF3
 go_wp2_with fail
 refine(aa HE).mono ?_
 rintro e w5 ⟨err,rfl,hEr,hf5⟩
 have hrb5:w5.heap[w.heap.size]?=some (.cells #[.int .u32 0,.slice none 0 0] 25):=(hf5.block w.heap.size (by have:=(aa H4).1.size;have:=(aa H3).2.1.size;have:=(aa H2).2.2;omega) (fun h=>h)).trans hrb4
 have hv05:=(hf5.cell (p:=⟨w1.heap.size+1,0,none⟩) (ab hv04) (fun h=>h)).trans hv04
 have hn05:=(hf5.cell (p:=⟨w1.heap.size+1+1,0,none⟩) (ab hn04) (fun h=>h)).trans hn04
 have hv15:=(hf5.cell (p:=⟨w1.heap.size+1,1,none⟩) (ab hv14) (fun h=>h)).trans hv14
 have hn15:=(hf5.cell (p:=⟨w1.heap.size+1+1,1,none⟩) (ab hn14) (fun h=>h)).trans hn14
 have hr05:w5.cell? ⟨w.heap.size,0,none⟩=some (.int .u32 0):=by simp[World.cell?,hrb5]
 have hr15:w5.cell? ⟨w.heap.size,1,none⟩=some (.slice none 0 0):=by simp[World.cell?,hrb5]
 have hrz5:∀ i,w5.frozen? ⟨w.heap.size,i,none⟩=false:=fun i=>by simp[World.frozen?,hrb5]
 have hrl5:=ab hr05
 have hlv5:=ab hv05
 have hln5:=ab hn05
 have hnr1:w1.heap.size+1≠w.heap.size:=by omega
 have hnr2:w1.heap.size+1+1≠w.heap.size:=by omega
 have hsF:∀ (i:Nat) v W,Fr (fun k=>k=w.heap.size) w5 W→Fr (fun k=>k=w.heap.size) w5 (W.setCell ⟨w.heap.size,i,none⟩ v):=fun i v W h=>h.setCell (.inl rfl) v
 have H5:=ae (And.intro hf5 (hEr))
 rcases hEr with ⟨h0,rfl⟩|⟨h1',h7,fb,rfl,hb⟩
 ·clear hf5
  go_wp2_with fail
  refine bodyPost_ret (v:=.tuple #[.agg #[v0,v1],.nilIface]) (by simp[results,Tryz.results48,go_sem,hr05,hr15]) rfl ?_
  have hfin:q'.fin.2.2=0:=h0
  refine⟨_,_,rfl,.inl ⟨hfin,rfl⟩,fun h=>absurd hfin h,fun _=>⟨F3,w1.heap.size+1,?_,by omega⟩,?_⟩
  ·have hR5:=(aa H).2.1 _ _ _ _ _ _ _ ((aa H).2.1 _ _ _ _ _ _ _ (aa H3).2.2.1 (aa H4).1 (fun _ _ h=>h.elim)) (ar.bh (aa H5).1 F3 (fun _ _=>False)) (fun _ _ h=>h.elim)
   exact(aa H).2.1 _ _ _ _ _ _ _ hR5 (((ar.refl w5 F3 (fun k _=>k=w.heap.size)).trans (ar.set w.heap.size 0 _) (fun k j _ h=>h.1)).trans (ar.set w.heap.size 1 _) (fun k j _ h=>h.1)) (fun k j h=>h)
  ·exact(((aa H4).2.trans (aa H5).1 (fun _ _ h=>h)).setCell (.inr (Nat.le_refl _)) _).setCell (.inr (Nat.le_refl _)) _
 ·have hfb:fb≠w.heap.size:=fun e=>by rw[e,hrb5] at hb;simp[aJ] at hb
  have HB5:=ae hb
  clear hf5 hb
  go_wp2_with fail
  refine bodyPost_ret (v:=.tuple #[.agg #[.int .u32 0,.slice none 0 0],.iface 78 (.pointer (some ⟨fb,0,none⟩))]) (by simp[results,Tryz.results48,go_sem,hr05,hr15]) rfl ?_
  have hfin:q'.fin.2.2≠0:=fun e=>by have:1≤q'.fin.2.2:=h1';omega
  refine⟨_,_,rfl,.inr ⟨h1',h7,fb,rfl,?_⟩,fun _=>rfl,fun h=>absurd h hfin,?_⟩
  ·rw[Below.heap_setCell _ _ _ _ hfb,Below.heap_setCell _ _ _ _ hfb]
   exact aa HB5
  ·exact(((aa H4).2.trans (aa H5).1 (fun _ _ h=>h)).setCell (.inr (Nat.le_refl _)) _).setCell (.inr (Nat.le_refl _)) _
theorem sa (x:Value) (l:List Nat) (q':Q) (Res:World→(Nat→Prop)→Nat→Array Value→Prop) (E:Nat→Addr) (w:World) (hg:G6 w E) (hw:9≤w.heap.size) (hx:Src w x l) (hl:l.length≤140737488355328)
  (hst:∀ w2 w' F F' P g vs,Res w2 F g vs→ar w2 w' F F' P→(∀ k j,P k j→k=w.heap.size)→Res w' F' g vs)
  (hwhole:∀ w1 cb b F g,Cd w1 cb b F (.rd ⟨ByteArray.empty,l,0,0,none⟩) E→w1.cell? ⟨g,0,none⟩=some (.int .u32 0)→w1.cell? ⟨g,1,none⟩=some (.slice none 0 0)→w1.cell? ⟨g,2,none⟩=some (.int .u32 0)→w1.cell? ⟨g,3,none⟩=some (.slice none 0 0)→(∀ i,Loc w1 cb F g i)→(∀ k,F k→w.heap.size<k)→w.heap.size<g→Fr (fun _=>False) w w1→Calls Tryz.prog 68 #[.pointer (some ⟨cb,0,none⟩),.iface 213 (.pointer (some ⟨g,0,none⟩))] w1 fun e w'=>e = .returned (.tuple #[])∧∃ F',Cd w' cb b F' (.rd q') E∧∃ v0 v1 v2 v3,w'.cell? ⟨g,0,none⟩=some v0∧w'.cell? ⟨g,1,none⟩=some v1∧w'.cell? ⟨g,2,none⟩=some v2∧w'.cell? ⟨g,3,none⟩=some v3∧(∀ v∈([v0,v1,v2,v3]:List Value),v.oneCell'=true)∧Res w' F' g #[v0,v1,v2,v3]∧ar w1 w' F F' (fun k _=>k=g)) :
  Calls Tryz.prog 80 #[x] w fun e w'=>∃ vs err,e = .returned (.tuple #[.agg vs,err])∧df w' err q'.fin E∧(q'.fin.2.2≠0→vs = #[.int .u32 0,.slice none 0 0,.int .u32 0,.slice none 0 0])∧(q'.fin.2.2=0→∃ F' g,Res w' F' g vs∧w.heap.size≤g)∧Fr (fun _=>False) w w':=by
 obtain⟨xo,xc,rfl⟩:=hx.form
 have hbx:=al w (.cells #[.int .u32 0,.slice none 0 0,.int .u32 0,.slice none 0 0] 37)
 have HN:=ae (du _ l (w.alloc (.cells #[.int .u32 0,.slice none 0 0,.int .u32 0,.slice none 0 0] 37)) (by simp;omega) (hx.fr hbx (fun _ _ _ _ _ h=>h)) hl)
 have H:=ae (And.intro hg (And.intro hst hwhole))
 have HB:=ae hbx
 clear hg hst hwhole hx hbx
 go_enter Tryz.func80,Tryz.ntmps80
 go_wp2_with fail
 refine(aa HN).mono ?_
 rintro e w1 ⟨b,F,rfl,hR1,hf1',hF1'⟩
 have hf1:Fr (fun _=>False) w w1:=(aa HB).trans hf1' (fun _ _ h=>h)
 have hF1:∀ k,F k→w.heap.size<k:=fun k hk=>by have:=hF1' k hk;simp at this;omega
 have hr0:w1.cell? ⟨w.heap.size,0,none⟩=some (.int .u32 0):=(hf1'.cell (p:=⟨w.heap.size,0,none⟩) (by simp) (fun h=>h)).trans (by simp)
 have hrz:∀ i,w1.frozen? ⟨w.heap.size,i,none⟩=false:=fun i=>(hf1'.frozen (p:=⟨w.heap.size,i,none⟩) (by simp) (fun h=>h)).trans (by simp)
 have hrb:w1.heap[w.heap.size]?=some (.cells #[.int .u32 0,.slice none 0 0,.int .u32 0,.slice none 0 0] 37):=(hf1'.block w.heap.size (by simp) (fun h=>h)).trans (heap_alloc_new _ _)
 have hrl:=ab hr0
 clear hf1' hF1'
 have hbl:=hR1.lt b hR1.fb
 have H1:=ae (And.intro hR1 (And.intro hf1 hF1))
 clear hR1 hf1 hF1
 go_wp2_with fail
 obtain⟨W2,hW2⟩:∃ W2,((w1.alloc (.cells #[.pointer none,.pointer (some ⟨b,0,none⟩)] 143)).alloc (.cells #[.int .u32 0,.slice none 0 0,.int .u32 0,.slice none 0 0] 37)).alloc (.cells #[.int .u32 0,.slice none 0 0,.int .u32 0,.slice none 0 0] 37)=W2:=⟨_,rfl⟩
 have hf12:Fr (fun _=>False) w1 W2:=by rw[← hW2];exact aI _ _ _ _
 have HF12:=ae hf12
 have hf02:=(aa H1).2.1.trans hf12 (fun _ _ h=>h)
 have hsz2:W2.heap.size=w1.heap.size+3:=by rw[← hW2];simp
 have hC2:Cd W2 w1.heap.size b F (.rd ⟨ByteArray.empty,l,0,0,none⟩) E:=by
  have hb1:=(aa H1).1.lt
  have hw1:=(aa H1).2.1.size
  refine⟨(aa H).1.fr hf02 (fun _ h=>h.elim),fun hx=>by have:=hb1 _ hx;omega,fun k hk=>by have:=hb1 k hk;omega,(aa H1).1.lo,by omega,?_,?_,⟨(aa H1).1.frame hf12 (fun _ _ h=>h),⟨Nat.zero_le _,Nat.zero_le _,fun y hy=>by cases hy⟩,hl⟩,trivial⟩
  ·rw[← hW2,World.cell?_alloc_past _ _ _ (by simp;omega),World.cell?_alloc_past _ _ _ (by simp),World.cell?_alloc_at _ _ _ _ (by simp)];rfl
  ·rw[← hW2,World.cell?_alloc_past _ _ _ (by simp;omega),World.cell?_alloc_past _ _ _ (by simp),World.cell?_alloc_at _ _ _ _ (by simp)];rfl
 have hcs:∀ (i:Nat) v,(#[.int .u32 0,.slice none 0 0,.int .u32 0,.slice none 0 0]:Array Value)[i]?=some v→W2.cell? ⟨w1.heap.size+1,i,none⟩=some v:=fun i v hv=>by
  rw[← hW2,World.cell?_alloc_past _ _ _ (by simp),World.cell?_alloc_at _ _ _ _ (by simp)];exact hv
 have hnn:∀ (i:Nat) v,(#[.int .u32 0,.slice none 0 0,.int .u32 0,.slice none 0 0]:Array Value)[i]?=some v→W2.cell? ⟨w1.heap.size+1+1,i,none⟩=some v:=fun i v hv=>by
  rw[← hW2,World.cell?_alloc_at _ _ _ _ (by simp)];exact hv
 have hLo:∀ i,Loc W2 w1.heap.size F (w1.heap.size+1) i:=fun i=>by
  have hb1:=(aa H1).1.lt
  have hw1:=(aa H1).2.1.size
  exact⟨(((by rw[← hW2];exact al _ _):Fr (fun _=>False) ((w1.alloc (.cells #[.pointer none,.pointer (some ⟨b,0,none⟩)] 143)).alloc (.cells #[.int .u32 0,.slice none 0 0,.int .u32 0,.slice none 0 0] 37)) W2).frozen (p:=⟨w1.heap.size+1,i,none⟩) (by simp) (fun h=>h)).trans (by simp),by omega,fun hx=>by have:=hb1 _ hx;omega,by omega,by omega⟩
 have HW:=ae ((aa H).2.2 W2 w1.heap.size b F (w1.heap.size+1) hC2 (hcs 0 _ rfl) (hcs 1 _ rfl) (hcs 2 _ rfl) (hcs 3 _ rfl) hLo (aa H1).2.2 (by omega) hf02)
 have H2:=ae (And.intro hf02 (And.intro hnn hsz2))
 clear hC2 hf02 hLo hsz2 hcs hf12 hnn
 rw[hW2]
 clear hW2
 refine(aa HW).mono ?_
 rintro e w3 ⟨rfl,F3,hC3,v0,v1,v2,v3,hv0,hv1,hv2,hv3,hone,hRes,hs3⟩
 have hst0:∀ (a:Addr) (m:Mode) (W:World),(store a v0 m).run Tryz.prog W=stored Tryz.prog W a v0 m:=fun _ _ _=>run_store _ _ _ _ _ (hone v0 (by simp))
 have hst1:∀ (a:Addr) (m:Mode) (W:World),(store a v1 m).run Tryz.prog W=stored Tryz.prog W a v1 m:=fun _ _ _=>run_store _ _ _ _ _ (hone v1 (by simp))
 have hst2:∀ (a:Addr) (m:Mode) (W:World),(store a v2 m).run Tryz.prog W=stored Tryz.prog W a v2 m:=fun _ _ _=>run_store _ _ _ _ _ (hone v2 (by simp))
 have hst3:∀ (a:Addr) (m:Mode) (W:World),(store a v3 m).run Tryz.prog W=stored Tryz.prog W a v3 m:=fun _ _ _=>run_store _ _ _ _ _ (hone v3 (by simp))
 clear hone
 have h1:w3.cell? ⟨w1.heap.size,1,none⟩=some (.pointer (some ⟨b,0,none⟩)):=hC3.c1
 have hl1:=ab h1
 obtain⟨hf02,hnn,hsz2⟩:=aa H2
 have hFb:∀ k,F k→k<w1.heap.size:=(aa H1).1.lt
 have hne:∀ i,w3.cell? ⟨w1.heap.size+1+1,i,none⟩=W2.cell? ⟨w1.heap.size+1+1,i,none⟩:=fun i=>hs3.oth (w1.heap.size+1+1) i (by omega) (fun hx=>by have:=hFb _ hx;omega) (fun h=>by omega)
 have hn0:=(hne 0).trans (hnn 0 _ rfl)
 have hn1:=(hne 1).trans (hnn 1 _ rfl)
 have hn2:=(hne 2).trans (hnn 2 _ rfl)
 have hn3:=(hne 3).trans (hnn 3 _ rfl)
 have hrF:¬ F w.heap.size:=fun hx=>by have:=(aa H1).2.2 _ hx;omega
 have hrb3:w3.heap[w.heap.size]?=some (.cells #[.int .u32 0,.slice none 0 0,.int .u32 0,.slice none 0 0] 37):=(hs3.block (by omega) hrF (fun i h=>by omega)).trans ((aa HF12).block _ hrl (fun h=>h) |>.trans hrb)
 have hf03:Fr (fun _=>False) w w3:=hf02.trans hs3.fr (fun k hk hx=>hx.elim (fun hx=>by have:=(aa H1).2.2 k hx;omega) (fun ⟨_,hx⟩=>by omega))
 have hst3:R w3 b F3 (q'.dH E)∧q'.ok∧q'.all.length≤140737488355328:=hC3.st
 have HD:=ae (cm q' bk b F3 E w3 hst3.1)
 have H3:=ae (And.intro hC3 (And.intro hs3 (And.intro hRes (And.intro hf03 (And.intro hst3.2.1 hrF)))))
 clear hC3 hs3 hRes hf03 hst3 hrF hf02 hnn hsz2 hFb hne
 go_wp2_with fail
 refine(aa HD).mono ?_
 rintro e w4 ⟨rfl,hR4,hch4⟩
 have hgF3:=(aa H3).2.1.nF (by have:=(aa H2).2.2;omega) (show ¬ F (w1.heap.size+1) from fun hx=>by have:=(aa H1).1.lt _ hx;omega)
 have hnF3:=(aa H3).2.1.nF (by have:=(aa H2).2.2;omega) (show ¬ F (w1.heap.size+1+1) from fun hx=>by have:=(aa H1).1.lt _ hx;omega)
 have hcF3:=(aa H3).1.nf
 have hv04:=(hch4.fr.cell (p:=⟨w1.heap.size+1,0,none⟩) (ab hv0) hgF3).trans hv0
 have hv14:=(hch4.fr.cell (p:=⟨w1.heap.size+1,1,none⟩) (ab hv1) hgF3).trans hv1
 have hv24:=(hch4.fr.cell (p:=⟨w1.heap.size+1,2,none⟩) (ab hv2) hgF3).trans hv2
 have hv34:=(hch4.fr.cell (p:=⟨w1.heap.size+1,3,none⟩) (ab hv3) hgF3).trans hv3
 have hn04:=(hch4.fr.cell (p:=⟨w1.heap.size+1+1,0,none⟩) (ab hn0) hnF3).trans hn0
 have hn14:=(hch4.fr.cell (p:=⟨w1.heap.size+1+1,1,none⟩) (ab hn1) hnF3).trans hn1
 have hn24:=(hch4.fr.cell (p:=⟨w1.heap.size+1+1,2,none⟩) (ab hn2) hnF3).trans hn2
 have hn34:=(hch4.fr.cell (p:=⟨w1.heap.size+1+1,3,none⟩) (ab hn3) hnF3).trans hn3
 have h14:w4.cell? ⟨w1.heap.size,1,none⟩=some (.pointer (some ⟨b,0,none⟩)):=(hch4.fr.cell (p:=⟨w1.heap.size,1,none⟩) hl1 hcF3).trans h1
 have hrb4:w4.heap[w.heap.size]?=some (.cells #[.int .u32 0,.slice none 0 0,.int .u32 0,.slice none 0 0] 37):=(hch4.fr.block w.heap.size (by omega) ((aa H3).2.1.nF (by have:=(aa H2).2.2;omega) (aa H3).2.2.2.2.2)).trans hrb3
 have HE:=ae (gu (q'.named bk) b F3 E w4 hR4 (Q.bt (aa H3).2.2.2.2.1 bk) ((aa H3).1.g7.fr hch4.fr (aa H3).1.lo).gl)
 have hs4:ar w3 w4 F3 F3 (fun _ _=>False):=ar.cY hch4 _
 have hf04:Fr (fun _=>False) w w4:=(aa H3).2.2.2.1.trans hch4.fr (fun k hk hx=>by
  rcases(aa H3).2.1.new k hx with h|h
  ·have:=(aa H1).2.2 k h;omega
  ·have:=(aa H1).2.1.size;have:=(aa H2).2.2;omega)
 have H4:=ae (And.intro hs4 hf04)
 clear hR4 hch4 hs4 hf04 hgF3 hnF3 hcF3
 go_wp2_with fail
 refine(aa HE).mono ?_
 rintro e w5 ⟨err,rfl,hEr,hf5⟩
 have hrb5:w5.heap[w.heap.size]?=some (.cells #[.int .u32 0,.slice none 0 0,.int .u32 0,.slice none 0 0] 37):=(hf5.block w.heap.size (by have:=(aa H4).1.size;have:=(aa H3).2.1.size;have:=(aa H2).2.2;omega) (fun h=>h)).trans hrb4
 have hv05:=(hf5.cell (p:=⟨w1.heap.size+1,0,none⟩) (ab hv04) (fun h=>h)).trans hv04
 have hn05:=(hf5.cell (p:=⟨w1.heap.size+1+1,0,none⟩) (ab hn04) (fun h=>h)).trans hn04
 have hv15:=(hf5.cell (p:=⟨w1.heap.size+1,1,none⟩) (ab hv14) (fun h=>h)).trans hv14
 have hn15:=(hf5.cell (p:=⟨w1.heap.size+1+1,1,none⟩) (ab hn14) (fun h=>h)).trans hn14
 have hv25:=(hf5.cell (p:=⟨w1.heap.size+1,2,none⟩) (ab hv24) (fun h=>h)).trans hv24
 have hn25:=(hf5.cell (p:=⟨w1.heap.size+1+1,2,none⟩) (ab hn24) (fun h=>h)).trans hn24
 have hv35:=(hf5.cell (p:=⟨w1.heap.size+1,3,none⟩) (ab hv34) (fun h=>h)).trans hv34
 have hn35:=(hf5.cell (p:=⟨w1.heap.size+1+1,3,none⟩) (ab hn34) (fun h=>h)).trans hn34
 have hr05:w5.cell? ⟨w.heap.size,0,none⟩=some (.int .u32 0):=by simp[World.cell?,hrb5]
 have hr15:w5.cell? ⟨w.heap.size,1,none⟩=some (.slice none 0 0):=by simp[World.cell?,hrb5]
 have hr25:w5.cell? ⟨w.heap.size,2,none⟩=some (.int .u32 0):=by simp[World.cell?,hrb5]
 have hr35:w5.cell? ⟨w.heap.size,3,none⟩=some (.slice none 0 0):=by simp[World.cell?,hrb5]
 have hrz5:∀ i,w5.frozen? ⟨w.heap.size,i,none⟩=false:=fun i=>by simp[World.frozen?,hrb5]
 have hrl5:=ab hr05
 have hlv5:=ab hv05
 have hln5:=ab hn05
 have hnr1:w1.heap.size+1≠w.heap.size:=by omega
 have hnr2:w1.heap.size+1+1≠w.heap.size:=by omega
 have hsF:∀ (i:Nat) v W,Fr (fun k=>k=w.heap.size) w5 W→Fr (fun k=>k=w.heap.size) w5 (W.setCell ⟨w.heap.size,i,none⟩ v):=fun i v W h=>h.setCell (.inl rfl) v
 have H5:=ae (And.intro hf5 (hEr))
 rcases hEr with ⟨h0,rfl⟩|⟨h1',h7,fb,rfl,hb⟩
 ·clear hf5
  go_wp2_with fail
  refine bodyPost_ret (v:=.tuple #[.agg #[v0,v1,v2,v3],.nilIface]) (by simp[results,Tryz.results80,go_sem,hr05,hr15,hr25,hr35]) rfl ?_
  have hfin:q'.fin.2.2=0:=h0
  refine⟨_,_,rfl,.inl ⟨hfin,rfl⟩,fun h=>absurd hfin h,fun _=>⟨F3,w1.heap.size+1,?_,by omega⟩,?_⟩
  ·have hR5:=(aa H).2.1 _ _ _ _ _ _ _ ((aa H).2.1 _ _ _ _ _ _ _ (aa H3).2.2.1 (aa H4).1 (fun _ _ h=>h.elim)) (ar.bh (aa H5).1 F3 (fun _ _=>False)) (fun _ _ h=>h.elim)
   exact(aa H).2.1 _ _ _ _ _ _ _ hR5 (((((ar.refl w5 F3 (fun k _=>k=w.heap.size)).trans (ar.set w.heap.size 0 _) (fun k j _ h=>h.1)).trans (ar.set w.heap.size 1 _) (fun k j _ h=>h.1)).trans (ar.set w.heap.size 2 _) (fun k j _ h=>h.1)).trans (ar.set w.heap.size 3 _) (fun k j _ h=>h.1)) (fun k j h=>h)
  ·exact(((((aa H4).2.trans (aa H5).1 (fun _ _ h=>h)).setCell (.inr (Nat.le_refl _)) _).setCell (.inr (Nat.le_refl _)) _).setCell (.inr (Nat.le_refl _)) _).setCell (.inr (Nat.le_refl _)) _
 ·have hfb:fb≠w.heap.size:=fun e=>by rw[e,hrb5] at hb;simp[aJ] at hb
  have HB5:=ae hb
  clear hf5 hb
  go_wp2_with fail
  refine bodyPost_ret (v:=.tuple #[.agg #[.int .u32 0,.slice none 0 0,.int .u32 0,.slice none 0 0],.iface 78 (.pointer (some ⟨fb,0,none⟩))]) (by simp[results,Tryz.results80,go_sem,hr05,hr15,hr25,hr35]) rfl ?_
  have hfin:q'.fin.2.2≠0:=fun e=>by have:1≤q'.fin.2.2:=h1';omega
  refine⟨_,_,rfl,.inr ⟨h1',h7,fb,rfl,?_⟩,fun _=>rfl,fun h=>absurd h hfin,?_⟩
  ·rw[Below.heap_setCell _ _ _ _ hfb,Below.heap_setCell _ _ _ _ hfb,Below.heap_setCell _ _ _ _ hfb,Below.heap_setCell _ _ _ _ hfb]
   exact aa HB5
  ·exact(((((aa H4).2.trans (aa H5).1 (fun _ _ h=>h)).setCell (.inr (Nat.le_refl _)) _).setCell (.inr (Nat.le_refl _)) _).setCell (.inr (Nat.le_refl _)) _).setCell (.inr (Nat.le_refl _)) _
theorem uz (x:Value) (l:List Nat) (q':Q) (Res:World→(Nat→Prop)→Nat→Array Value→Prop) (E:Nat→Addr) (w:World) (hg:G6 w E) (hw:9≤w.heap.size) (hx:Src w x l) (hl:l.length≤140737488355328)
  (hst:∀ w2 w' F F' P g vs,Res w2 F g vs→ar w2 w' F F' P→(∀ k j,P k j→k=w.heap.size)→Res w' F' g vs)
  (hwhole:∀ w1 cb b F g,Cd w1 cb b F (.rd ⟨ByteArray.empty,l,0,0,none⟩) E→w1.cell? ⟨g,0,none⟩=some (.slice none 0 0)→(∀ i,Loc w1 cb F g i)→(∀ k,F k→w.heap.size<k)→w.heap.size<g→Fr (fun _=>False) w w1→Calls Tryz.prog 68 #[.pointer (some ⟨cb,0,none⟩),.iface 215 (.pointer (some ⟨g,0,none⟩))] w1 fun e w'=>e = .returned (.tuple #[])∧∃ F',Cd w' cb b F' (.rd q') E∧∃ v0,w'.cell? ⟨g,0,none⟩=some v0∧(∀ v∈([v0]:List Value),v.oneCell'=true)∧Res w' F' g #[v0]∧ar w1 w' F F' (fun k _=>k=g)) :
  Calls Tryz.prog 81 #[x] w fun e w'=>∃ vs err,e = .returned (.tuple #[.agg vs,err])∧df w' err q'.fin E∧(q'.fin.2.2≠0→vs = #[.slice none 0 0])∧(q'.fin.2.2=0→∃ F' g,Res w' F' g vs∧w.heap.size≤g)∧Fr (fun _=>False) w w':=by
 obtain⟨xo,xc,rfl⟩:=hx.form
 have hbx:=al w (.cells #[.slice none 0 0] 40)
 have HN:=ae (du _ l (w.alloc (.cells #[.slice none 0 0] 40)) (by simp;omega) (hx.fr hbx (fun _ _ _ _ _ h=>h)) hl)
 have H:=ae (And.intro hg (And.intro hst hwhole))
 have HB:=ae hbx
 clear hg hst hwhole hx hbx
 go_enter Tryz.func81,Tryz.ntmps81
 go_wp2_with fail
 refine(aa HN).mono ?_
 rintro e w1 ⟨b,F,rfl,hR1,hf1',hF1'⟩
 have hf1:Fr (fun _=>False) w w1:=(aa HB).trans hf1' (fun _ _ h=>h)
 have hF1:∀ k,F k→w.heap.size<k:=fun k hk=>by have:=hF1' k hk;simp at this;omega
 have hr0:w1.cell? ⟨w.heap.size,0,none⟩=some (.slice none 0 0):=(hf1'.cell (p:=⟨w.heap.size,0,none⟩) (by simp) (fun h=>h)).trans (by simp)
 have hrz:∀ i,w1.frozen? ⟨w.heap.size,i,none⟩=false:=fun i=>(hf1'.frozen (p:=⟨w.heap.size,i,none⟩) (by simp) (fun h=>h)).trans (by simp)
 have hrb:w1.heap[w.heap.size]?=some (.cells #[.slice none 0 0] 40):=(hf1'.block w.heap.size (by simp) (fun h=>h)).trans (heap_alloc_new _ _)
 have hrl:=ab hr0
 clear hf1' hF1'
 have hbl:=hR1.lt b hR1.fb
 have H1:=ae (And.intro hR1 (And.intro hf1 hF1))
 clear hR1 hf1 hF1
 go_wp2_with fail
 obtain⟨W2,hW2⟩:∃ W2,((w1.alloc (.cells #[.pointer none,.pointer (some ⟨b,0,none⟩)] 143)).alloc (.cells #[.slice none 0 0] 40)).alloc (.cells #[.slice none 0 0] 40)=W2:=⟨_,rfl⟩
 have hf12:Fr (fun _=>False) w1 W2:=by rw[← hW2];exact aI _ _ _ _
 have HF12:=ae hf12
 have hf02:=(aa H1).2.1.trans hf12 (fun _ _ h=>h)
 have hsz2:W2.heap.size=w1.heap.size+3:=by rw[← hW2];simp
 have hC2:Cd W2 w1.heap.size b F (.rd ⟨ByteArray.empty,l,0,0,none⟩) E:=by
  have hb1:=(aa H1).1.lt
  have hw1:=(aa H1).2.1.size
  refine⟨(aa H).1.fr hf02 (fun _ h=>h.elim),fun hx=>by have:=hb1 _ hx;omega,fun k hk=>by have:=hb1 k hk;omega,(aa H1).1.lo,by omega,?_,?_,⟨(aa H1).1.frame hf12 (fun _ _ h=>h),⟨Nat.zero_le _,Nat.zero_le _,fun y hy=>by cases hy⟩,hl⟩,trivial⟩
  ·rw[← hW2,World.cell?_alloc_past _ _ _ (by simp;omega),World.cell?_alloc_past _ _ _ (by simp),World.cell?_alloc_at _ _ _ _ (by simp)];rfl
  ·rw[← hW2,World.cell?_alloc_past _ _ _ (by simp;omega),World.cell?_alloc_past _ _ _ (by simp),World.cell?_alloc_at _ _ _ _ (by simp)];rfl
 have hcs:∀ (i:Nat) v,(#[.slice none 0 0]:Array Value)[i]?=some v→W2.cell? ⟨w1.heap.size+1,i,none⟩=some v:=fun i v hv=>by
  rw[← hW2,World.cell?_alloc_past _ _ _ (by simp),World.cell?_alloc_at _ _ _ _ (by simp)];exact hv
 have hnn:∀ (i:Nat) v,(#[.slice none 0 0]:Array Value)[i]?=some v→W2.cell? ⟨w1.heap.size+1+1,i,none⟩=some v:=fun i v hv=>by
  rw[← hW2,World.cell?_alloc_at _ _ _ _ (by simp)];exact hv
 have hLo:∀ i,Loc W2 w1.heap.size F (w1.heap.size+1) i:=fun i=>by
  have hb1:=(aa H1).1.lt
  have hw1:=(aa H1).2.1.size
  exact⟨(((by rw[← hW2];exact al _ _):Fr (fun _=>False) ((w1.alloc (.cells #[.pointer none,.pointer (some ⟨b,0,none⟩)] 143)).alloc (.cells #[.slice none 0 0] 40)) W2).frozen (p:=⟨w1.heap.size+1,i,none⟩) (by simp) (fun h=>h)).trans (by simp),by omega,fun hx=>by have:=hb1 _ hx;omega,by omega,by omega⟩
 have HW:=ae ((aa H).2.2 W2 w1.heap.size b F (w1.heap.size+1) hC2 (hcs 0 _ rfl) hLo (aa H1).2.2 (by omega) hf02)
 have H2:=ae (And.intro hf02 (And.intro hnn hsz2))
 clear hC2 hf02 hLo hsz2 hcs hf12 hnn
 rw[hW2]
 clear hW2
 refine(aa HW).mono ?_
 rintro e w3 ⟨rfl,F3,hC3,v0,hv0,hone,hRes,hs3⟩
 have hst0:∀ (a:Addr) (m:Mode) (W:World),(store a v0 m).run Tryz.prog W=stored Tryz.prog W a v0 m:=fun _ _ _=>run_store _ _ _ _ _ (hone v0 (by simp))
 clear hone
 have h1:w3.cell? ⟨w1.heap.size,1,none⟩=some (.pointer (some ⟨b,0,none⟩)):=hC3.c1
 have hl1:=ab h1
 obtain⟨hf02,hnn,hsz2⟩:=aa H2
 have hFb:∀ k,F k→k<w1.heap.size:=(aa H1).1.lt
 have hne:∀ i,w3.cell? ⟨w1.heap.size+1+1,i,none⟩=W2.cell? ⟨w1.heap.size+1+1,i,none⟩:=fun i=>hs3.oth (w1.heap.size+1+1) i (by omega) (fun hx=>by have:=hFb _ hx;omega) (fun h=>by omega)
 have hn0:=(hne 0).trans (hnn 0 _ rfl)
 have hrF:¬ F w.heap.size:=fun hx=>by have:=(aa H1).2.2 _ hx;omega
 have hrb3:w3.heap[w.heap.size]?=some (.cells #[.slice none 0 0] 40):=(hs3.block (by omega) hrF (fun i h=>by omega)).trans ((aa HF12).block _ hrl (fun h=>h) |>.trans hrb)
 have hf03:Fr (fun _=>False) w w3:=hf02.trans hs3.fr (fun k hk hx=>hx.elim (fun hx=>by have:=(aa H1).2.2 k hx;omega) (fun ⟨_,hx⟩=>by omega))
 have hst3:R w3 b F3 (q'.dH E)∧q'.ok∧q'.all.length≤140737488355328:=hC3.st
 have HD:=ae (cm q' bk b F3 E w3 hst3.1)
 have H3:=ae (And.intro hC3 (And.intro hs3 (And.intro hRes (And.intro hf03 (And.intro hst3.2.1 hrF)))))
 clear hC3 hs3 hRes hf03 hst3 hrF hf02 hnn hsz2 hFb hne
 go_wp2_with fail
 refine(aa HD).mono ?_
 rintro e w4 ⟨rfl,hR4,hch4⟩
 have hgF3:=(aa H3).2.1.nF (by have:=(aa H2).2.2;omega) (show ¬ F (w1.heap.size+1) from fun hx=>by have:=(aa H1).1.lt _ hx;omega)
 have hnF3:=(aa H3).2.1.nF (by have:=(aa H2).2.2;omega) (show ¬ F (w1.heap.size+1+1) from fun hx=>by have:=(aa H1).1.lt _ hx;omega)
 have hcF3:=(aa H3).1.nf
 have hv04:=(hch4.fr.cell (p:=⟨w1.heap.size+1,0,none⟩) (ab hv0) hgF3).trans hv0
 have hn04:=(hch4.fr.cell (p:=⟨w1.heap.size+1+1,0,none⟩) (ab hn0) hnF3).trans hn0
 have h14:w4.cell? ⟨w1.heap.size,1,none⟩=some (.pointer (some ⟨b,0,none⟩)):=(hch4.fr.cell (p:=⟨w1.heap.size,1,none⟩) hl1 hcF3).trans h1
 have hrb4:w4.heap[w.heap.size]?=some (.cells #[.slice none 0 0] 40):=(hch4.fr.block w.heap.size (by omega) ((aa H3).2.1.nF (by have:=(aa H2).2.2;omega) (aa H3).2.2.2.2.2)).trans hrb3
 have HE:=ae (gu (q'.named bk) b F3 E w4 hR4 (Q.bt (aa H3).2.2.2.2.1 bk) ((aa H3).1.g7.fr hch4.fr (aa H3).1.lo).gl)
 have hs4:ar w3 w4 F3 F3 (fun _ _=>False):=ar.cY hch4 _
 have hf04:Fr (fun _=>False) w w4:=(aa H3).2.2.2.1.trans hch4.fr (fun k hk hx=>by
  rcases(aa H3).2.1.new k hx with h|h
  ·have:=(aa H1).2.2 k h;omega
  ·have:=(aa H1).2.1.size;have:=(aa H2).2.2;omega)
 have H4:=ae (And.intro hs4 hf04)
 clear hR4 hch4 hs4 hf04 hgF3 hnF3 hcF3
 go_wp2_with fail
 refine(aa HE).mono ?_
 rintro e w5 ⟨err,rfl,hEr,hf5⟩
 have hrb5:w5.heap[w.heap.size]?=some (.cells #[.slice none 0 0] 40):=(hf5.block w.heap.size (by have:=(aa H4).1.size;have:=(aa H3).2.1.size;have:=(aa H2).2.2;omega) (fun h=>h)).trans hrb4
 have hv05:=(hf5.cell (p:=⟨w1.heap.size+1,0,none⟩) (ab hv04) (fun h=>h)).trans hv04
 have hn05:=(hf5.cell (p:=⟨w1.heap.size+1+1,0,none⟩) (ab hn04) (fun h=>h)).trans hn04
 have hr05:w5.cell? ⟨w.heap.size,0,none⟩=some (.slice none 0 0):=by simp[World.cell?,hrb5]
 have hrz5:∀ i,w5.frozen? ⟨w.heap.size,i,none⟩=false:=fun i=>by simp[World.frozen?,hrb5]
 have hrl5:=ab hr05
 have hlv5:=ab hv05
 have hln5:=ab hn05
 have hnr1:w1.heap.size+1≠w.heap.size:=by omega
 have hnr2:w1.heap.size+1+1≠w.heap.size:=by omega
 have hsF:∀ (i:Nat) v W,Fr (fun k=>k=w.heap.size) w5 W→Fr (fun k=>k=w.heap.size) w5 (W.setCell ⟨w.heap.size,i,none⟩ v):=fun i v W h=>h.setCell (.inl rfl) v
 have H5:=ae (And.intro hf5 (hEr))
 rcases hEr with ⟨h0,rfl⟩|⟨h1',h7,fb,rfl,hb⟩
 ·clear hf5
  go_wp2_with fail
  refine bodyPost_ret (v:=.tuple #[.agg #[v0],.nilIface]) (by simp[results,Tryz.results81,go_sem,hr05]) rfl ?_
  have hfin:q'.fin.2.2=0:=h0
  refine⟨_,_,rfl,.inl ⟨hfin,rfl⟩,fun h=>absurd hfin h,fun _=>⟨F3,w1.heap.size+1,?_,by omega⟩,?_⟩
  ·have hR5:=(aa H).2.1 _ _ _ _ _ _ _ ((aa H).2.1 _ _ _ _ _ _ _ (aa H3).2.2.1 (aa H4).1 (fun _ _ h=>h.elim)) (ar.bh (aa H5).1 F3 (fun _ _=>False)) (fun _ _ h=>h.elim)
   exact(aa H).2.1 _ _ _ _ _ _ _ hR5 ((ar.refl w5 F3 (fun k _=>k=w.heap.size)).trans (ar.set w.heap.size 0 _) (fun k j _ h=>h.1)) (fun k j h=>h)
  ·exact((aa H4).2.trans (aa H5).1 (fun _ _ h=>h)).setCell (.inr (Nat.le_refl _)) _
 ·have hfb:fb≠w.heap.size:=fun e=>by rw[e,hrb5] at hb;simp[aJ] at hb
  have HB5:=ae hb
  clear hf5 hb
  go_wp2_with fail
  refine bodyPost_ret (v:=.tuple #[.agg #[.slice none 0 0],.iface 78 (.pointer (some ⟨fb,0,none⟩))]) (by simp[results,Tryz.results81,go_sem,hr05]) rfl ?_
  have hfin:q'.fin.2.2≠0:=fun e=>by have:1≤q'.fin.2.2:=h1';omega
  refine⟨_,_,rfl,.inr ⟨h1',h7,fb,rfl,?_⟩,fun _=>rfl,fun h=>absurd h hfin,?_⟩
  ·rw[Below.heap_setCell _ _ _ _ hfb]
   exact aa HB5
  ·exact((aa H4).2.trans (aa H5).1 (fun _ _ h=>h)).setCell (.inr (Nat.le_refl _)) _
theorem qG (x:Value) (l:List Nat) (q':Q) (Res:World→(Nat→Prop)→Nat→Array Value→Prop) (E:Nat→Addr) (w:World) (hg:G6 w E) (hw:9≤w.heap.size) (hx:Src w x l) (hl:l.length≤140737488355328)
  (hst:∀ w2 w' F F' P g vs,Res w2 F g vs→ar w2 w' F F' P→(∀ k j,P k j→k=w.heap.size)→Res w' F' g vs)
  (hwhole:∀ w1 cb b F g,Cd w1 cb b F (.rd ⟨ByteArray.empty,l,0,0,none⟩) E→w1.cell? ⟨g,0,none⟩=some (.int .u32 0)→w1.cell? ⟨g,1,none⟩=some (.int .u32 0)→w1.cell? ⟨g,2,none⟩=some (.int .u32 0)→w1.cell? ⟨g,3,none⟩=some (.int .u8 0)→w1.cell? ⟨g,4,none⟩=some (.int .u32 0)→w1.cell? ⟨g,5,none⟩=some (.int .u32 0)→w1.cell? ⟨g,6,none⟩=some (.int .u32 0)→w1.cell? ⟨g,7,none⟩=some (.int .u32 0)→w1.cell? ⟨g,8,none⟩=some (.slice none 0 0)→w1.cell? ⟨g,9,none⟩=some (.string ⟨#[]⟩)→(∀ i,Loc w1 cb F g i)→(∀ k,F k→w.heap.size<k)→w.heap.size<g→Fr (fun _=>False) w w1→Calls Tryz.prog 68 #[.pointer (some ⟨cb,0,none⟩),.iface 157 (.pointer (some ⟨g,0,none⟩))] w1 fun e w'=>e = .returned (.tuple #[])∧∃ F',Cd w' cb b F' (.rd q') E∧∃ v0 v1 v2 v3 v4 v5 v6 v7 v8 v9,w'.cell? ⟨g,0,none⟩=some v0∧w'.cell? ⟨g,1,none⟩=some v1∧w'.cell? ⟨g,2,none⟩=some v2∧w'.cell? ⟨g,3,none⟩=some v3∧w'.cell? ⟨g,4,none⟩=some v4∧w'.cell? ⟨g,5,none⟩=some v5∧w'.cell? ⟨g,6,none⟩=some v6∧w'.cell? ⟨g,7,none⟩=some v7∧w'.cell? ⟨g,8,none⟩=some v8∧w'.cell? ⟨g,9,none⟩=some v9∧(∀ v∈([v0,v1,v2,v3,v4,v5,v6,v7,v8,v9]:List Value),v.oneCell'=true)∧Res w' F' g #[v0,v1,v2,v3,v4,v5,v6,v7,v8,v9]∧ar w1 w' F F' (fun k _=>k=g)) :
  Calls Tryz.prog 77 #[x] w fun e w'=>∃ vs err,e = .returned (.tuple #[.agg vs,err])∧df w' err q'.fin E∧(q'.fin.2.2≠0→vs = #[.int .u32 0,.int .u32 0,.int .u32 0,.int .u8 0,.int .u32 0,.int .u32 0,.int .u32 0,.int .u32 0,.slice none 0 0,.string ⟨#[]⟩])∧(q'.fin.2.2=0→∃ F' g,Res w' F' g vs∧w.heap.size≤g)∧Fr (fun _=>False) w w':=by
 obtain⟨xo,xc,rfl⟩:=hx.form
 have hbx:=al w (.cells #[.int .u32 0,.int .u32 0,.int .u32 0,.int .u8 0,.int .u32 0,.int .u32 0,.int .u32 0,.int .u32 0,.slice none 0 0,.string ⟨#[]⟩] 30)
 have HN:=ae (du _ l (w.alloc (.cells #[.int .u32 0,.int .u32 0,.int .u32 0,.int .u8 0,.int .u32 0,.int .u32 0,.int .u32 0,.int .u32 0,.slice none 0 0,.string ⟨#[]⟩] 30)) (by simp;omega) (hx.fr hbx (fun _ _ _ _ _ h=>h)) hl)
 have H:=ae (And.intro hg (And.intro hst hwhole))
 have HB:=ae hbx
 clear hg hst hwhole hx hbx
 go_enter Tryz.func77,Tryz.ntmps77
 go_wp2_with fail
 refine(aa HN).mono ?_
 rintro e w1 ⟨b,F,rfl,hR1,hf1',hF1'⟩
 have hf1:Fr (fun _=>False) w w1:=(aa HB).trans hf1' (fun _ _ h=>h)
 have hF1:∀ k,F k→w.heap.size<k:=fun k hk=>by have:=hF1' k hk;simp at this;omega
 have hr0:w1.cell? ⟨w.heap.size,0,none⟩=some (.int .u32 0):=(hf1'.cell (p:=⟨w.heap.size,0,none⟩) (by simp) (fun h=>h)).trans (by simp)
 have hrz:∀ i,w1.frozen? ⟨w.heap.size,i,none⟩=false:=fun i=>(hf1'.frozen (p:=⟨w.heap.size,i,none⟩) (by simp) (fun h=>h)).trans (by simp)
 have hrb:w1.heap[w.heap.size]?=some (.cells #[.int .u32 0,.int .u32 0,.int .u32 0,.int .u8 0,.int .u32 0,.int .u32 0,.int .u32 0,.int .u32 0,.slice none 0 0,.string ⟨#[]⟩] 30):=(hf1'.block w.heap.size (by simp) (fun h=>h)).trans (heap_alloc_new _ _)
 have hrl:=ab hr0
 clear hf1' hF1'
 have hbl:=hR1.lt b hR1.fb
 have H1:=ae (And.intro hR1 (And.intro hf1 hF1))
 clear hR1 hf1 hF1
 go_wp2_with fail
 obtain⟨W2,hW2⟩:∃ W2,((w1.alloc (.cells #[.pointer none,.pointer (some ⟨b,0,none⟩)] 143)).alloc (.cells #[.int .u32 0,.int .u32 0,.int .u32 0,.int .u8 0,.int .u32 0,.int .u32 0,.int .u32 0,.int .u32 0,.slice none 0 0,.string ⟨#[]⟩] 30)).alloc (.cells #[.int .u32 0,.int .u32 0,.int .u32 0,.int .u8 0,.int .u32 0,.int .u32 0,.int .u32 0,.int .u32 0,.slice none 0 0,.string ⟨#[]⟩] 30)=W2:=⟨_,rfl⟩
 have hf12:Fr (fun _=>False) w1 W2:=by rw[← hW2];exact aI _ _ _ _
 have HF12:=ae hf12
 have hf02:=(aa H1).2.1.trans hf12 (fun _ _ h=>h)
 have hsz2:W2.heap.size=w1.heap.size+3:=by rw[← hW2];simp
 have hC2:Cd W2 w1.heap.size b F (.rd ⟨ByteArray.empty,l,0,0,none⟩) E:=by
  have hb1:=(aa H1).1.lt
  have hw1:=(aa H1).2.1.size
  refine⟨(aa H).1.fr hf02 (fun _ h=>h.elim),fun hx=>by have:=hb1 _ hx;omega,fun k hk=>by have:=hb1 k hk;omega,(aa H1).1.lo,by omega,?_,?_,⟨(aa H1).1.frame hf12 (fun _ _ h=>h),⟨Nat.zero_le _,Nat.zero_le _,fun y hy=>by cases hy⟩,hl⟩,trivial⟩
  ·rw[← hW2,World.cell?_alloc_past _ _ _ (by simp;omega),World.cell?_alloc_past _ _ _ (by simp),World.cell?_alloc_at _ _ _ _ (by simp)];rfl
  ·rw[← hW2,World.cell?_alloc_past _ _ _ (by simp;omega),World.cell?_alloc_past _ _ _ (by simp),World.cell?_alloc_at _ _ _ _ (by simp)];rfl
 have hcs:∀ (i:Nat) v,(#[.int .u32 0,.int .u32 0,.int .u32 0,.int .u8 0,.int .u32 0,.int .u32 0,.int .u32 0,.int .u32 0,.slice none 0 0,.string ⟨#[]⟩]:Array Value)[i]?=some v→W2.cell? ⟨w1.heap.size+1,i,none⟩=some v:=fun i v hv=>by
  rw[← hW2,World.cell?_alloc_past _ _ _ (by simp),World.cell?_alloc_at _ _ _ _ (by simp)];exact hv
 have hnn:∀ (i:Nat) v,(#[.int .u32 0,.int .u32 0,.int .u32 0,.int .u8 0,.int .u32 0,.int .u32 0,.int .u32 0,.int .u32 0,.slice none 0 0,.string ⟨#[]⟩]:Array Value)[i]?=some v→W2.cell? ⟨w1.heap.size+1+1,i,none⟩=some v:=fun i v hv=>by
  rw[← hW2,World.cell?_alloc_at _ _ _ _ (by simp)];exact hv
 have hLo:∀ i,Loc W2 w1.heap.size F (w1.heap.size+1) i:=fun i=>by
  have hb1:=(aa H1).1.lt
  have hw1:=(aa H1).2.1.size
  exact⟨(((by rw[← hW2];exact al _ _):Fr (fun _=>False) ((w1.alloc (.cells #[.pointer none,.pointer (some ⟨b,0,none⟩)] 143)).alloc (.cells #[.int .u32 0,.int .u32 0,.int .u32 0,.int .u8 0,.int .u32 0,.int .u32 0,.int .u32 0,.int .u32 0,.slice none 0 0,.string ⟨#[]⟩] 30)) W2).frozen (p:=⟨w1.heap.size+1,i,none⟩) (by simp) (fun h=>h)).trans (by simp),by omega,fun hx=>by have:=hb1 _ hx;omega,by omega,by omega⟩
 have HW:=ae ((aa H).2.2 W2 w1.heap.size b F (w1.heap.size+1) hC2 (hcs 0 _ rfl) (hcs 1 _ rfl) (hcs 2 _ rfl) (hcs 3 _ rfl) (hcs 4 _ rfl) (hcs 5 _ rfl) (hcs 6 _ rfl) (hcs 7 _ rfl) (hcs 8 _ rfl) (hcs 9 _ rfl) hLo (aa H1).2.2 (by omega) hf02)
 have H2:=ae (And.intro hf02 (And.intro hnn hsz2))
 clear hC2 hf02 hLo hsz2 hcs hf12 hnn
 rw[hW2]
 clear hW2
 refine(aa HW).mono ?_
 rintro e w3 ⟨rfl,F3,hC3,v0,v1,v2,v3,v4,v5,v6,v7,v8,v9,hv0,hv1,hv2,hv3,hv4,hv5,hv6,hv7,hv8,hv9,hone,hRes,hs3⟩
 have hst0:∀ (a:Addr) (m:Mode) (W:World),(store a v0 m).run Tryz.prog W=stored Tryz.prog W a v0 m:=fun _ _ _=>run_store _ _ _ _ _ (hone v0 (by simp))
 have hst1:∀ (a:Addr) (m:Mode) (W:World),(store a v1 m).run Tryz.prog W=stored Tryz.prog W a v1 m:=fun _ _ _=>run_store _ _ _ _ _ (hone v1 (by simp))
 have hst2:∀ (a:Addr) (m:Mode) (W:World),(store a v2 m).run Tryz.prog W=stored Tryz.prog W a v2 m:=fun _ _ _=>run_store _ _ _ _ _ (hone v2 (by simp))
 have hst3:∀ (a:Addr) (m:Mode) (W:World),(store a v3 m).run Tryz.prog W=stored Tryz.prog W a v3 m:=fun _ _ _=>run_store _ _ _ _ _ (hone v3 (by simp))
 have hst4:∀ (a:Addr) (m:Mode) (W:World),(store a v4 m).run Tryz.prog W=stored Tryz.prog W a v4 m:=fun _ _ _=>run_store _ _ _ _ _ (hone v4 (by simp))
 have hst5:∀ (a:Addr) (m:Mode) (W:World),(store a v5 m).run Tryz.prog W=stored Tryz.prog W a v5 m:=fun _ _ _=>run_store _ _ _ _ _ (hone v5 (by simp))
 have hst6:∀ (a:Addr) (m:Mode) (W:World),(store a v6 m).run Tryz.prog W=stored Tryz.prog W a v6 m:=fun _ _ _=>run_store _ _ _ _ _ (hone v6 (by simp))
 have hst7:∀ (a:Addr) (m:Mode) (W:World),(store a v7 m).run Tryz.prog W=stored Tryz.prog W a v7 m:=fun _ _ _=>run_store _ _ _ _ _ (hone v7 (by simp))
 have hst8:∀ (a:Addr) (m:Mode) (W:World),(store a v8 m).run Tryz.prog W=stored Tryz.prog W a v8 m:=fun _ _ _=>run_store _ _ _ _ _ (hone v8 (by simp))
 have hst9:∀ (a:Addr) (m:Mode) (W:World),(store a v9 m).run Tryz.prog W=stored Tryz.prog W a v9 m:=fun _ _ _=>run_store _ _ _ _ _ (hone v9 (by simp))
 clear hone
 have h1:w3.cell? ⟨w1.heap.size,1,none⟩=some (.pointer (some ⟨b,0,none⟩)):=hC3.c1
 have hl1:=ab h1
 obtain⟨hf02,hnn,hsz2⟩:=aa H2
 have hFb:∀ k,F k→k<w1.heap.size:=(aa H1).1.lt
 have hne:∀ i,w3.cell? ⟨w1.heap.size+1+1,i,none⟩=W2.cell? ⟨w1.heap.size+1+1,i,none⟩:=fun i=>hs3.oth (w1.heap.size+1+1) i (by omega) (fun hx=>by have:=hFb _ hx;omega) (fun h=>by omega)
 have hn0:=(hne 0).trans (hnn 0 _ rfl)
 have hn1:=(hne 1).trans (hnn 1 _ rfl)
 have hn2:=(hne 2).trans (hnn 2 _ rfl)
 have hn3:=(hne 3).trans (hnn 3 _ rfl)
 have hn4:=(hne 4).trans (hnn 4 _ rfl)
 have hn5:=(hne 5).trans (hnn 5 _ rfl)
 have hn6:=(hne 6).trans (hnn 6 _ rfl)
 have hn7:=(hne 7).trans (hnn 7 _ rfl)
 have hn8:=(hne 8).trans (hnn 8 _ rfl)
 have hn9:=(hne 9).trans (hnn 9 _ rfl)
 have hrF:¬ F w.heap.size:=fun hx=>by have:=(aa H1).2.2 _ hx;omega
 have hrb3:w3.heap[w.heap.size]?=some (.cells #[.int .u32 0,.int .u32 0,.int .u32 0,.int .u8 0,.int .u32 0,.int .u32 0,.int .u32 0,.int .u32 0,.slice none 0 0,.string ⟨#[]⟩] 30):=(hs3.block (by omega) hrF (fun i h=>by omega)).trans ((aa HF12).block _ hrl (fun h=>h) |>.trans hrb)
 have hf03:Fr (fun _=>False) w w3:=hf02.trans hs3.fr (fun k hk hx=>hx.elim (fun hx=>by have:=(aa H1).2.2 k hx;omega) (fun ⟨_,hx⟩=>by omega))
 have hst3:R w3 b F3 (q'.dH E)∧q'.ok∧q'.all.length≤140737488355328:=hC3.st
 have HD:=ae (cm q' bk b F3 E w3 hst3.1)
 have H3:=ae (And.intro hC3 (And.intro hs3 (And.intro hRes (And.intro hf03 (And.intro hst3.2.1 hrF)))))
 clear hC3 hs3 hRes hf03 hst3 hrF hf02 hnn hsz2 hFb hne
 go_wp2_with fail
 refine(aa HD).mono ?_
 rintro e w4 ⟨rfl,hR4,hch4⟩
 have hgF3:=(aa H3).2.1.nF (by have:=(aa H2).2.2;omega) (show ¬ F (w1.heap.size+1) from fun hx=>by have:=(aa H1).1.lt _ hx;omega)
 have hnF3:=(aa H3).2.1.nF (by have:=(aa H2).2.2;omega) (show ¬ F (w1.heap.size+1+1) from fun hx=>by have:=(aa H1).1.lt _ hx;omega)
 have hcF3:=(aa H3).1.nf
 have hv04:=(hch4.fr.cell (p:=⟨w1.heap.size+1,0,none⟩) (ab hv0) hgF3).trans hv0
 have hv14:=(hch4.fr.cell (p:=⟨w1.heap.size+1,1,none⟩) (ab hv1) hgF3).trans hv1
 have hv24:=(hch4.fr.cell (p:=⟨w1.heap.size+1,2,none⟩) (ab hv2) hgF3).trans hv2
 have hv34:=(hch4.fr.cell (p:=⟨w1.heap.size+1,3,none⟩) (ab hv3) hgF3).trans hv3
 have hv44:=(hch4.fr.cell (p:=⟨w1.heap.size+1,4,none⟩) (ab hv4) hgF3).trans hv4
 have hv54:=(hch4.fr.cell (p:=⟨w1.heap.size+1,5,none⟩) (ab hv5) hgF3).trans hv5
 have hv64:=(hch4.fr.cell (p:=⟨w1.heap.size+1,6,none⟩) (ab hv6) hgF3).trans hv6
 have hv74:=(hch4.fr.cell (p:=⟨w1.heap.size+1,7,none⟩) (ab hv7) hgF3).trans hv7
 have hv84:=(hch4.fr.cell (p:=⟨w1.heap.size+1,8,none⟩) (ab hv8) hgF3).trans hv8
 have hv94:=(hch4.fr.cell (p:=⟨w1.heap.size+1,9,none⟩) (ab hv9) hgF3).trans hv9
 have hn04:=(hch4.fr.cell (p:=⟨w1.heap.size+1+1,0,none⟩) (ab hn0) hnF3).trans hn0
 have hn14:=(hch4.fr.cell (p:=⟨w1.heap.size+1+1,1,none⟩) (ab hn1) hnF3).trans hn1
 have hn24:=(hch4.fr.cell (p:=⟨w1.heap.size+1+1,2,none⟩) (ab hn2) hnF3).trans hn2
 have hn34:=(hch4.fr.cell (p:=⟨w1.heap.size+1+1,3,none⟩) (ab hn3) hnF3).trans hn3
 have hn44:=(hch4.fr.cell (p:=⟨w1.heap.size+1+1,4,none⟩) (ab hn4) hnF3).trans hn4
 have hn54:=(hch4.fr.cell (p:=⟨w1.heap.size+1+1,5,none⟩) (ab hn5) hnF3).trans hn5
 have hn64:=(hch4.fr.cell (p:=⟨w1.heap.size+1+1,6,none⟩) (ab hn6) hnF3).trans hn6
 have hn74:=(hch4.fr.cell (p:=⟨w1.heap.size+1+1,7,none⟩) (ab hn7) hnF3).trans hn7
 have hn84:=(hch4.fr.cell (p:=⟨w1.heap.size+1+1,8,none⟩) (ab hn8) hnF3).trans hn8
 have hn94:=(hch4.fr.cell (p:=⟨w1.heap.size+1+1,9,none⟩) (ab hn9) hnF3).trans hn9
 have h14:w4.cell? ⟨w1.heap.size,1,none⟩=some (.pointer (some ⟨b,0,none⟩)):=(hch4.fr.cell (p:=⟨w1.heap.size,1,none⟩) hl1 hcF3).trans h1
 have hrb4:w4.heap[w.heap.size]?=some (.cells #[.int .u32 0,.int .u32 0,.int .u32 0,.int .u8 0,.int .u32 0,.int .u32 0,.int .u32 0,.int .u32 0,.slice none 0 0,.string ⟨#[]⟩] 30):=(hch4.fr.block w.heap.size (by omega) ((aa H3).2.1.nF (by have:=(aa H2).2.2;omega) (aa H3).2.2.2.2.2)).trans hrb3
 have HE:=ae (gu (q'.named bk) b F3 E w4 hR4 (Q.bt (aa H3).2.2.2.2.1 bk) ((aa H3).1.g7.fr hch4.fr (aa H3).1.lo).gl)
 have hs4:ar w3 w4 F3 F3 (fun _ _=>False):=ar.cY hch4 _
 have hf04:Fr (fun _=>False) w w4:=(aa H3).2.2.2.1.trans hch4.fr (fun k hk hx=>by
  rcases(aa H3).2.1.new k hx with h|h
  ·have:=(aa H1).2.2 k h;omega
  ·have:=(aa H1).2.1.size;have:=(aa H2).2.2;omega)
 have H4:=ae (And.intro hs4 hf04)
 clear hR4 hch4 hs4 hf04 hgF3 hnF3 hcF3
 go_wp2_with fail
 refine(aa HE).mono ?_
 rintro e w5 ⟨err,rfl,hEr,hf5⟩
 have hrb5:w5.heap[w.heap.size]?=some (.cells #[.int .u32 0,.int .u32 0,.int .u32 0,.int .u8 0,.int .u32 0,.int .u32 0,.int .u32 0,.int .u32 0,.slice none 0 0,.string ⟨#[]⟩] 30):=(hf5.block w.heap.size (by have:=(aa H4).1.size;have:=(aa H3).2.1.size;have:=(aa H2).2.2;omega) (fun h=>h)).trans hrb4
 have hv05:=(hf5.cell (p:=⟨w1.heap.size+1,0,none⟩) (ab hv04) (fun h=>h)).trans hv04
 have hn05:=(hf5.cell (p:=⟨w1.heap.size+1+1,0,none⟩) (ab hn04) (fun h=>h)).trans hn04
 have hv15:=(hf5.cell (p:=⟨w1.heap.size+1,1,none⟩) (ab hv14) (fun h=>h)).trans hv14
 have hn15:=(hf5.cell (p:=⟨w1.heap.size+1+1,1,none⟩) (ab hn14) (fun h=>h)).trans hn14
 have hv25:=(hf5.cell (p:=⟨w1.heap.size+1,2,none⟩) (ab hv24) (fun h=>h)).trans hv24
 have hn25:=(hf5.cell (p:=⟨w1.heap.size+1+1,2,none⟩) (ab hn24) (fun h=>h)).trans hn24
 have hv35:=(hf5.cell (p:=⟨w1.heap.size+1,3,none⟩) (ab hv34) (fun h=>h)).trans hv34
 have hn35:=(hf5.cell (p:=⟨w1.heap.size+1+1,3,none⟩) (ab hn34) (fun h=>h)).trans hn34
 have hv45:=(hf5.cell (p:=⟨w1.heap.size+1,4,none⟩) (ab hv44) (fun h=>h)).trans hv44
 have hn45:=(hf5.cell (p:=⟨w1.heap.size+1+1,4,none⟩) (ab hn44) (fun h=>h)).trans hn44
 have hv55:=(hf5.cell (p:=⟨w1.heap.size+1,5,none⟩) (ab hv54) (fun h=>h)).trans hv54
 have hn55:=(hf5.cell (p:=⟨w1.heap.size+1+1,5,none⟩) (ab hn54) (fun h=>h)).trans hn54
 have hv65:=(hf5.cell (p:=⟨w1.heap.size+1,6,none⟩) (ab hv64) (fun h=>h)).trans hv64
 have hn65:=(hf5.cell (p:=⟨w1.heap.size+1+1,6,none⟩) (ab hn64) (fun h=>h)).trans hn64
 have hv75:=(hf5.cell (p:=⟨w1.heap.size+1,7,none⟩) (ab hv74) (fun h=>h)).trans hv74
 have hn75:=(hf5.cell (p:=⟨w1.heap.size+1+1,7,none⟩) (ab hn74) (fun h=>h)).trans hn74
 have hv85:=(hf5.cell (p:=⟨w1.heap.size+1,8,none⟩) (ab hv84) (fun h=>h)).trans hv84
 have hn85:=(hf5.cell (p:=⟨w1.heap.size+1+1,8,none⟩) (ab hn84) (fun h=>h)).trans hn84
 have hv95:=(hf5.cell (p:=⟨w1.heap.size+1,9,none⟩) (ab hv94) (fun h=>h)).trans hv94
 have hn95:=(hf5.cell (p:=⟨w1.heap.size+1+1,9,none⟩) (ab hn94) (fun h=>h)).trans hn94
 have hr05:w5.cell? ⟨w.heap.size,0,none⟩=some (.int .u32 0):=by simp[World.cell?,hrb5]
 have hr15:w5.cell? ⟨w.heap.size,1,none⟩=some (.int .u32 0):=by simp[World.cell?,hrb5]
 have hr25:w5.cell? ⟨w.heap.size,2,none⟩=some (.int .u32 0):=by simp[World.cell?,hrb5]
 have hr35:w5.cell? ⟨w.heap.size,3,none⟩=some (.int .u8 0):=by simp[World.cell?,hrb5]
 have hr45:w5.cell? ⟨w.heap.size,4,none⟩=some (.int .u32 0):=by simp[World.cell?,hrb5]
 have hr55:w5.cell? ⟨w.heap.size,5,none⟩=some (.int .u32 0):=by simp[World.cell?,hrb5]
 have hr65:w5.cell? ⟨w.heap.size,6,none⟩=some (.int .u32 0):=by simp[World.cell?,hrb5]
 have hr75:w5.cell? ⟨w.heap.size,7,none⟩=some (.int .u32 0):=by simp[World.cell?,hrb5]
 have hr85:w5.cell? ⟨w.heap.size,8,none⟩=some (.slice none 0 0):=by simp[World.cell?,hrb5]
 have hr95:w5.cell? ⟨w.heap.size,9,none⟩=some (.string ⟨#[]⟩):=by simp[World.cell?,hrb5]
 have hrz5:∀ i,w5.frozen? ⟨w.heap.size,i,none⟩=false:=fun i=>by simp[World.frozen?,hrb5]
 have hrl5:=ab hr05
 have hlv5:=ab hv05
 have hln5:=ab hn05
 have hnr1:w1.heap.size+1≠w.heap.size:=by omega
 have hnr2:w1.heap.size+1+1≠w.heap.size:=by omega
 have hsF:∀ (i:Nat) v W,Fr (fun k=>k=w.heap.size) w5 W→Fr (fun k=>k=w.heap.size) w5 (W.setCell ⟨w.heap.size,i,none⟩ v):=fun i v W h=>h.setCell (.inl rfl) v
 have H5:=ae (And.intro hf5 (hEr))
 rcases hEr with ⟨h0,rfl⟩|⟨h1',h7,fb,rfl,hb⟩
 ·clear hf5
  go_wp2_with fail
  refine bodyPost_ret (v:=.tuple #[.agg #[v0,v1,v2,v3,v4,v5,v6,v7,v8,v9],.nilIface]) (by simp[results,Tryz.results77,go_sem,hr05,hr15,hr25,hr35,hr45,hr55,hr65,hr75,hr85,hr95]) rfl ?_
  have hfin:q'.fin.2.2=0:=h0
  refine⟨_,_,rfl,.inl ⟨hfin,rfl⟩,fun h=>absurd hfin h,fun _=>⟨F3,w1.heap.size+1,?_,by omega⟩,?_⟩
  ·have hR5:=(aa H).2.1 _ _ _ _ _ _ _ ((aa H).2.1 _ _ _ _ _ _ _ (aa H3).2.2.1 (aa H4).1 (fun _ _ h=>h.elim)) (ar.bh (aa H5).1 F3 (fun _ _=>False)) (fun _ _ h=>h.elim)
   exact(aa H).2.1 _ _ _ _ _ _ _ hR5 (((((((((((ar.refl w5 F3 (fun k _=>k=w.heap.size)).trans (ar.set w.heap.size 0 _) (fun k j _ h=>h.1)).trans (ar.set w.heap.size 1 _) (fun k j _ h=>h.1)).trans (ar.set w.heap.size 2 _) (fun k j _ h=>h.1)).trans (ar.set w.heap.size 3 _) (fun k j _ h=>h.1)).trans (ar.set w.heap.size 4 _) (fun k j _ h=>h.1)).trans (ar.set w.heap.size 5 _) (fun k j _ h=>h.1)).trans (ar.set w.heap.size 6 _) (fun k j _ h=>h.1)).trans (ar.set w.heap.size 7 _) (fun k j _ h=>h.1)).trans (ar.set w.heap.size 8 _) (fun k j _ h=>h.1)).trans (ar.set w.heap.size 9 _) (fun k j _ h=>h.1)) (fun k j h=>h)
  ·exact(((((((((((aa H4).2.trans (aa H5).1 (fun _ _ h=>h)).setCell (.inr (Nat.le_refl _)) _).setCell (.inr (Nat.le_refl _)) _).setCell (.inr (Nat.le_refl _)) _).setCell (.inr (Nat.le_refl _)) _).setCell (.inr (Nat.le_refl _)) _).setCell (.inr (Nat.le_refl _)) _).setCell (.inr (Nat.le_refl _)) _).setCell (.inr (Nat.le_refl _)) _).setCell (.inr (Nat.le_refl _)) _).setCell (.inr (Nat.le_refl _)) _
 ·have hfb:fb≠w.heap.size:=fun e=>by rw[e,hrb5] at hb;simp[aJ] at hb
  have HB5:=ae hb
  clear hf5 hb
  go_wp2_with fail
  refine bodyPost_ret (v:=.tuple #[.agg #[.int .u32 0,.int .u32 0,.int .u32 0,.int .u8 0,.int .u32 0,.int .u32 0,.int .u32 0,.int .u32 0,.slice none 0 0,.string ⟨#[]⟩],.iface 78 (.pointer (some ⟨fb,0,none⟩))]) (by simp[results,Tryz.results77,go_sem,hr05,hr15,hr25,hr35,hr45,hr55,hr65,hr75,hr85,hr95]) rfl ?_
  have hfin:q'.fin.2.2≠0:=fun e=>by have:1≤q'.fin.2.2:=h1';omega
  refine⟨_,_,rfl,.inr ⟨h1',h7,fb,rfl,?_⟩,fun _=>rfl,fun h=>absurd h hfin,?_⟩
  ·rw[Below.heap_setCell _ _ _ _ hfb,Below.heap_setCell _ _ _ _ hfb,Below.heap_setCell _ _ _ _ hfb,Below.heap_setCell _ _ _ _ hfb,Below.heap_setCell _ _ _ _ hfb,Below.heap_setCell _ _ _ _ hfb,Below.heap_setCell _ _ _ _ hfb,Below.heap_setCell _ _ _ _ hfb,Below.heap_setCell _ _ _ _ hfb,Below.heap_setCell _ _ _ _ hfb]
   exact aa HB5
  ·exact(((((((((((aa H4).2.trans (aa H5).1 (fun _ _ h=>h)).setCell (.inr (Nat.le_refl _)) _).setCell (.inr (Nat.le_refl _)) _).setCell (.inr (Nat.le_refl _)) _).setCell (.inr (Nat.le_refl _)) _).setCell (.inr (Nat.le_refl _)) _).setCell (.inr (Nat.le_refl _)) _).setCell (.inr (Nat.le_refl _)) _).setCell (.inr (Nat.le_refl _)) _).setCell (.inr (Nat.le_refl _)) _).setCell (.inr (Nat.le_refl _)) _
theorem uC (x:Value) (l:List Nat) (q':Q) (Res:World→(Nat→Prop)→Nat→Array Value→Prop) (E:Nat→Addr) (w:World) (hg:G6 w E) (hw:9≤w.heap.size) (hx:Src w x l) (hl:l.length≤140737488355328)
  (hst:∀ w2 w' F F' P g vs,Res w2 F g vs→ar w2 w' F F' P→(∀ k j,P k j→k=w.heap.size)→Res w' F' g vs)
  (hwhole:∀ w1 cb b F g,Cd w1 cb b F (.rd ⟨ByteArray.empty,l,0,0,none⟩) E→w1.cell? ⟨g,0,none⟩=some (.int .u32 0)→w1.cell? ⟨g,1,none⟩=some (.int .u32 0)→w1.cell? ⟨g,2,none⟩=some (.int .u32 0)→w1.cell? ⟨g,3,none⟩=some (.int .u32 0)→w1.cell? ⟨g,4,none⟩=some (.int .u8 0)→w1.cell? ⟨g,5,none⟩=some (.int .u32 0)→w1.cell? ⟨g,6,none⟩=some (.int .u32 0)→w1.cell? ⟨g,7,none⟩=some (.int .u32 0)→w1.cell? ⟨g,8,none⟩=some (.int .u32 0)→w1.cell? ⟨g,9,none⟩=some (.slice none 0 0)→w1.cell? ⟨g,10,none⟩=some (.string ⟨#[]⟩)→w1.cell? ⟨g,11,none⟩=some (.int .u8 0)→w1.cell? ⟨g,12,none⟩=some (.slice none 0 0)→(∀ i,Loc w1 cb F g i)→(∀ k,F k→w.heap.size<k)→w.heap.size<g→Fr (fun _=>False) w w1→Calls Tryz.prog 68 #[.pointer (some ⟨cb,0,none⟩),.iface 210 (.pointer (some ⟨g,0,none⟩))] w1 fun e w'=>e = .returned (.tuple #[])∧∃ F',Cd w' cb b F' (.rd q') E∧∃ v0 v1 v2 v3 v4 v5 v6 v7 v8 v9 v10 v11 v12,w'.cell? ⟨g,0,none⟩=some v0∧w'.cell? ⟨g,1,none⟩=some v1∧w'.cell? ⟨g,2,none⟩=some v2∧w'.cell? ⟨g,3,none⟩=some v3∧w'.cell? ⟨g,4,none⟩=some v4∧w'.cell? ⟨g,5,none⟩=some v5∧w'.cell? ⟨g,6,none⟩=some v6∧w'.cell? ⟨g,7,none⟩=some v7∧w'.cell? ⟨g,8,none⟩=some v8∧w'.cell? ⟨g,9,none⟩=some v9∧w'.cell? ⟨g,10,none⟩=some v10∧w'.cell? ⟨g,11,none⟩=some v11∧w'.cell? ⟨g,12,none⟩=some v12∧(∀ v∈([v0,v1,v2,v3,v4,v5,v6,v7,v8,v9,v10,v11,v12]:List Value),v.oneCell'=true)∧Res w' F' g #[v0,v1,v2,v3,v4,v5,v6,v7,v8,v9,v10,v11,v12]∧ar w1 w' F F' (fun k _=>k=g)) :
  Calls Tryz.prog 79 #[x] w fun e w'=>∃ vs err,e = .returned (.tuple #[.agg vs,err])∧df w' err q'.fin E∧(q'.fin.2.2≠0→vs = #[.int .u32 0,.int .u32 0,.int .u32 0,.int .u32 0,.int .u8 0,.int .u32 0,.int .u32 0,.int .u32 0,.int .u32 0,.slice none 0 0,.string ⟨#[]⟩,.int .u8 0,.slice none 0 0])∧(q'.fin.2.2=0→∃ F' g,Res w' F' g vs∧w.heap.size≤g)∧Fr (fun _=>False) w w':=by
 obtain⟨xo,xc,rfl⟩:=hx.form
 have hbx:=al w (.cells #[.int .u32 0,.int .u32 0,.int .u32 0,.int .u32 0,.int .u8 0,.int .u32 0,.int .u32 0,.int .u32 0,.int .u32 0,.slice none 0 0,.string ⟨#[]⟩,.int .u8 0,.slice none 0 0] 35)
 have HN:=ae (du _ l (w.alloc (.cells #[.int .u32 0,.int .u32 0,.int .u32 0,.int .u32 0,.int .u8 0,.int .u32 0,.int .u32 0,.int .u32 0,.int .u32 0,.slice none 0 0,.string ⟨#[]⟩,.int .u8 0,.slice none 0 0] 35)) (by simp;omega) (hx.fr hbx (fun _ _ _ _ _ h=>h)) hl)
 have H:=ae (And.intro hg (And.intro hst hwhole))
 have HB:=ae hbx
 clear hg hst hwhole hx hbx
 go_enter Tryz.func79,Tryz.ntmps79
 go_wp2_with fail
 refine(aa HN).mono ?_
 rintro e w1 ⟨b,F,rfl,hR1,hf1',hF1'⟩
 have hf1:Fr (fun _=>False) w w1:=(aa HB).trans hf1' (fun _ _ h=>h)
 have hF1:∀ k,F k→w.heap.size<k:=fun k hk=>by have:=hF1' k hk;simp at this;omega
 have hr0:w1.cell? ⟨w.heap.size,0,none⟩=some (.int .u32 0):=(hf1'.cell (p:=⟨w.heap.size,0,none⟩) (by simp) (fun h=>h)).trans (by simp)
 have hrz:∀ i,w1.frozen? ⟨w.heap.size,i,none⟩=false:=fun i=>(hf1'.frozen (p:=⟨w.heap.size,i,none⟩) (by simp) (fun h=>h)).trans (by simp)
 have hrb:w1.heap[w.heap.size]?=some (.cells #[.int .u32 0,.int .u32 0,.int .u32 0,.int .u32 0,.int .u8 0,.int .u32 0,.int .u32 0,.int .u32 0,.int .u32 0,.slice none 0 0,.string ⟨#[]⟩,.int .u8 0,.slice none 0 0] 35):=(hf1'.block w.heap.size (by simp) (fun h=>h)).trans (heap_alloc_new _ _)
 have hrl:=ab hr0
 clear hf1' hF1'
 have hbl:=hR1.lt b hR1.fb
 have H1:=ae (And.intro hR1 (And.intro hf1 hF1))
 clear hR1 hf1 hF1
 go_wp2_with fail
 obtain⟨W2,hW2⟩:∃ W2,((w1.alloc (.cells #[.pointer none,.pointer (some ⟨b,0,none⟩)] 143)).alloc (.cells #[.int .u32 0,.int .u32 0,.int .u32 0,.int .u32 0,.int .u8 0,.int .u32 0,.int .u32 0,.int .u32 0,.int .u32 0,.slice none 0 0,.string ⟨#[]⟩,.int .u8 0,.slice none 0 0] 35)).alloc (.cells #[.int .u32 0,.int .u32 0,.int .u32 0,.int .u32 0,.int .u8 0,.int .u32 0,.int .u32 0,.int .u32 0,.int .u32 0,.slice none 0 0,.string ⟨#[]⟩,.int .u8 0,.slice none 0 0] 35)=W2:=⟨_,rfl⟩
 have hf12:Fr (fun _=>False) w1 W2:=by rw[← hW2];exact aI _ _ _ _
 have HF12:=ae hf12
 have hf02:=(aa H1).2.1.trans hf12 (fun _ _ h=>h)
 have hsz2:W2.heap.size=w1.heap.size+3:=by rw[← hW2];simp
 have hC2:Cd W2 w1.heap.size b F (.rd ⟨ByteArray.empty,l,0,0,none⟩) E:=by
  have hb1:=(aa H1).1.lt
  have hw1:=(aa H1).2.1.size
  refine⟨(aa H).1.fr hf02 (fun _ h=>h.elim),fun hx=>by have:=hb1 _ hx;omega,fun k hk=>by have:=hb1 k hk;omega,(aa H1).1.lo,by omega,?_,?_,⟨(aa H1).1.frame hf12 (fun _ _ h=>h),⟨Nat.zero_le _,Nat.zero_le _,fun y hy=>by cases hy⟩,hl⟩,trivial⟩
  ·rw[← hW2,World.cell?_alloc_past _ _ _ (by simp;omega),World.cell?_alloc_past _ _ _ (by simp),World.cell?_alloc_at _ _ _ _ (by simp)];rfl
  ·rw[← hW2,World.cell?_alloc_past _ _ _ (by simp;omega),World.cell?_alloc_past _ _ _ (by simp),World.cell?_alloc_at _ _ _ _ (by simp)];rfl
 have hcs:∀ (i:Nat) v,(#[.int .u32 0,.int .u32 0,.int .u32 0,.int .u32 0,.int .u8 0,.int .u32 0,.int .u32 0,.int .u32 0,.int .u32 0,.slice none 0 0,.string ⟨#[]⟩,.int .u8 0,.slice none 0 0]:Array Value)[i]?=some v→W2.cell? ⟨w1.heap.size+1,i,none⟩=some v:=fun i v hv=>by
  rw[← hW2,World.cell?_alloc_past _ _ _ (by simp),World.cell?_alloc_at _ _ _ _ (by simp)];exact hv
 have hnn:∀ (i:Nat) v,(#[.int .u32 0,.int .u32 0,.int .u32 0,.int .u32 0,.int .u8 0,.int .u32 0,.int .u32 0,.int .u32 0,.int .u32 0,.slice none 0 0,.string ⟨#[]⟩,.int .u8 0,.slice none 0 0]:Array Value)[i]?=some v→W2.cell? ⟨w1.heap.size+1+1,i,none⟩=some v:=fun i v hv=>by
  rw[← hW2,World.cell?_alloc_at _ _ _ _ (by simp)];exact hv
 have hLo:∀ i,Loc W2 w1.heap.size F (w1.heap.size+1) i:=fun i=>by
  have hb1:=(aa H1).1.lt
  have hw1:=(aa H1).2.1.size
  exact⟨(((by rw[← hW2];exact al _ _):Fr (fun _=>False) ((w1.alloc (.cells #[.pointer none,.pointer (some ⟨b,0,none⟩)] 143)).alloc (.cells #[.int .u32 0,.int .u32 0,.int .u32 0,.int .u32 0,.int .u8 0,.int .u32 0,.int .u32 0,.int .u32 0,.int .u32 0,.slice none 0 0,.string ⟨#[]⟩,.int .u8 0,.slice none 0 0] 35)) W2).frozen (p:=⟨w1.heap.size+1,i,none⟩) (by simp) (fun h=>h)).trans (by simp),by omega,fun hx=>by have:=hb1 _ hx;omega,by omega,by omega⟩
 have HW:=ae ((aa H).2.2 W2 w1.heap.size b F (w1.heap.size+1) hC2 (hcs 0 _ rfl) (hcs 1 _ rfl) (hcs 2 _ rfl) (hcs 3 _ rfl) (hcs 4 _ rfl) (hcs 5 _ rfl) (hcs 6 _ rfl) (hcs 7 _ rfl) (hcs 8 _ rfl) (hcs 9 _ rfl) (hcs 10 _ rfl) (hcs 11 _ rfl) (hcs 12 _ rfl) hLo (aa H1).2.2 (by omega) hf02)
 have H2:=ae (And.intro hf02 (And.intro hnn hsz2))
 clear hC2 hf02 hLo hsz2 hcs hf12 hnn
 rw[hW2]
 clear hW2
 refine(aa HW).mono ?_
 rintro e w3 ⟨rfl,F3,hC3,v0,v1,v2,v3,v4,v5,v6,v7,v8,v9,v10,v11,v12,hv0,hv1,hv2,hv3,hv4,hv5,hv6,hv7,hv8,hv9,hv10,hv11,hv12,hone,hRes,hs3⟩
 have hst0:∀ (a:Addr) (m:Mode) (W:World),(store a v0 m).run Tryz.prog W=stored Tryz.prog W a v0 m:=fun _ _ _=>run_store _ _ _ _ _ (hone v0 (by simp))
 have hst1:∀ (a:Addr) (m:Mode) (W:World),(store a v1 m).run Tryz.prog W=stored Tryz.prog W a v1 m:=fun _ _ _=>run_store _ _ _ _ _ (hone v1 (by simp))
 have hst2:∀ (a:Addr) (m:Mode) (W:World),(store a v2 m).run Tryz.prog W=stored Tryz.prog W a v2 m:=fun _ _ _=>run_store _ _ _ _ _ (hone v2 (by simp))
 have hst3:∀ (a:Addr) (m:Mode) (W:World),(store a v3 m).run Tryz.prog W=stored Tryz.prog W a v3 m:=fun _ _ _=>run_store _ _ _ _ _ (hone v3 (by simp))
 have hst4:∀ (a:Addr) (m:Mode) (W:World),(store a v4 m).run Tryz.prog W=stored Tryz.prog W a v4 m:=fun _ _ _=>run_store _ _ _ _ _ (hone v4 (by simp))
 have hst5:∀ (a:Addr) (m:Mode) (W:World),(store a v5 m).run Tryz.prog W=stored Tryz.prog W a v5 m:=fun _ _ _=>run_store _ _ _ _ _ (hone v5 (by simp))
 have hst6:∀ (a:Addr) (m:Mode) (W:World),(store a v6 m).run Tryz.prog W=stored Tryz.prog W a v6 m:=fun _ _ _=>run_store _ _ _ _ _ (hone v6 (by simp))
 have hst7:∀ (a:Addr) (m:Mode) (W:World),(store a v7 m).run Tryz.prog W=stored Tryz.prog W a v7 m:=fun _ _ _=>run_store _ _ _ _ _ (hone v7 (by simp))
 have hst8:∀ (a:Addr) (m:Mode) (W:World),(store a v8 m).run Tryz.prog W=stored Tryz.prog W a v8 m:=fun _ _ _=>run_store _ _ _ _ _ (hone v8 (by simp))
 have hst9:∀ (a:Addr) (m:Mode) (W:World),(store a v9 m).run Tryz.prog W=stored Tryz.prog W a v9 m:=fun _ _ _=>run_store _ _ _ _ _ (hone v9 (by simp))
 have hst10:∀ (a:Addr) (m:Mode) (W:World),(store a v10 m).run Tryz.prog W=stored Tryz.prog W a v10 m:=fun _ _ _=>run_store _ _ _ _ _ (hone v10 (by simp))
 have hst11:∀ (a:Addr) (m:Mode) (W:World),(store a v11 m).run Tryz.prog W=stored Tryz.prog W a v11 m:=fun _ _ _=>run_store _ _ _ _ _ (hone v11 (by simp))
 have hst12:∀ (a:Addr) (m:Mode) (W:World),(store a v12 m).run Tryz.prog W=stored Tryz.prog W a v12 m:=fun _ _ _=>run_store _ _ _ _ _ (hone v12 (by simp))
 clear hone
 have h1:w3.cell? ⟨w1.heap.size,1,none⟩=some (.pointer (some ⟨b,0,none⟩)):=hC3.c1
 have hl1:=ab h1
 obtain⟨hf02,hnn,hsz2⟩:=aa H2
 have hFb:∀ k,F k→k<w1.heap.size:=(aa H1).1.lt
 have hne:∀ i,w3.cell? ⟨w1.heap.size+1+1,i,none⟩=W2.cell? ⟨w1.heap.size+1+1,i,none⟩:=fun i=>hs3.oth (w1.heap.size+1+1) i (by omega) (fun hx=>by have:=hFb _ hx;omega) (fun h=>by omega)
 have hn0:=(hne 0).trans (hnn 0 _ rfl)
 have hn1:=(hne 1).trans (hnn 1 _ rfl)
 have hn2:=(hne 2).trans (hnn 2 _ rfl)
 have hn3:=(hne 3).trans (hnn 3 _ rfl)
 have hn4:=(hne 4).trans (hnn 4 _ rfl)
 have hn5:=(hne 5).trans (hnn 5 _ rfl)
 have hn6:=(hne 6).trans (hnn 6 _ rfl)
 have hn7:=(hne 7).trans (hnn 7 _ rfl)
 have hn8:=(hne 8).trans (hnn 8 _ rfl)
 have hn9:=(hne 9).trans (hnn 9 _ rfl)
 have hn10:=(hne 10).trans (hnn 10 _ rfl)
 have hn11:=(hne 11).trans (hnn 11 _ rfl)
 have hn12:=(hne 12).trans (hnn 12 _ rfl)
 have hrF:¬ F w.heap.size:=fun hx=>by have:=(aa H1).2.2 _ hx;omega
 have hrb3:w3.heap[w.heap.size]?=some (.cells #[.int .u32 0,.int .u32 0,.int .u32 0,.int .u32 0,.int .u8 0,.int .u32 0,.int .u32 0,.int .u32 0,.int .u32 0,.slice none 0 0,.string ⟨#[]⟩,.int .u8 0,.slice none 0 0] 35):=(hs3.block (by omega) hrF (fun i h=>by omega)).trans ((aa HF12).block _ hrl (fun h=>h) |>.trans hrb)
 have hf03:Fr (fun _=>False) w w3:=hf02.trans hs3.fr (fun k hk hx=>hx.elim (fun hx=>by have:=(aa H1).2.2 k hx;omega) (fun ⟨_,hx⟩=>by omega))
 have hst3:R w3 b F3 (q'.dH E)∧q'.ok∧q'.all.length≤140737488355328:=hC3.st
 have HD:=ae (cm q' bk b F3 E w3 hst3.1)
 have H3:=ae (And.intro hC3 (And.intro hs3 (And.intro hRes (And.intro hf03 (And.intro hst3.2.1 hrF)))))
 clear hC3 hs3 hRes hf03 hst3 hrF hf02 hnn hsz2 hFb hne
 go_wp2_with fail
 refine(aa HD).mono ?_
 rintro e w4 ⟨rfl,hR4,hch4⟩
 have hgF3:=(aa H3).2.1.nF (by have:=(aa H2).2.2;omega) (show ¬ F (w1.heap.size+1) from fun hx=>by have:=(aa H1).1.lt _ hx;omega)
 have hnF3:=(aa H3).2.1.nF (by have:=(aa H2).2.2;omega) (show ¬ F (w1.heap.size+1+1) from fun hx=>by have:=(aa H1).1.lt _ hx;omega)
 have hcF3:=(aa H3).1.nf
 have hv04:=(hch4.fr.cell (p:=⟨w1.heap.size+1,0,none⟩) (ab hv0) hgF3).trans hv0
 have hv14:=(hch4.fr.cell (p:=⟨w1.heap.size+1,1,none⟩) (ab hv1) hgF3).trans hv1
 have hv24:=(hch4.fr.cell (p:=⟨w1.heap.size+1,2,none⟩) (ab hv2) hgF3).trans hv2
 have hv34:=(hch4.fr.cell (p:=⟨w1.heap.size+1,3,none⟩) (ab hv3) hgF3).trans hv3
 have hv44:=(hch4.fr.cell (p:=⟨w1.heap.size+1,4,none⟩) (ab hv4) hgF3).trans hv4
 have hv54:=(hch4.fr.cell (p:=⟨w1.heap.size+1,5,none⟩) (ab hv5) hgF3).trans hv5
 have hv64:=(hch4.fr.cell (p:=⟨w1.heap.size+1,6,none⟩) (ab hv6) hgF3).trans hv6
 have hv74:=(hch4.fr.cell (p:=⟨w1.heap.size+1,7,none⟩) (ab hv7) hgF3).trans hv7
 have hv84:=(hch4.fr.cell (p:=⟨w1.heap.size+1,8,none⟩) (ab hv8) hgF3).trans hv8
 have hv94:=(hch4.fr.cell (p:=⟨w1.heap.size+1,9,none⟩) (ab hv9) hgF3).trans hv9
 have hv104:=(hch4.fr.cell (p:=⟨w1.heap.size+1,10,none⟩) (ab hv10) hgF3).trans hv10
 have hv114:=(hch4.fr.cell (p:=⟨w1.heap.size+1,11,none⟩) (ab hv11) hgF3).trans hv11
 have hv124:=(hch4.fr.cell (p:=⟨w1.heap.size+1,12,none⟩) (ab hv12) hgF3).trans hv12
 have hn04:=(hch4.fr.cell (p:=⟨w1.heap.size+1+1,0,none⟩) (ab hn0) hnF3).trans hn0
 have hn14:=(hch4.fr.cell (p:=⟨w1.heap.size+1+1,1,none⟩) (ab hn1) hnF3).trans hn1
 have hn24:=(hch4.fr.cell (p:=⟨w1.heap.size+1+1,2,none⟩) (ab hn2) hnF3).trans hn2
 have hn34:=(hch4.fr.cell (p:=⟨w1.heap.size+1+1,3,none⟩) (ab hn3) hnF3).trans hn3
 have hn44:=(hch4.fr.cell (p:=⟨w1.heap.size+1+1,4,none⟩) (ab hn4) hnF3).trans hn4
 have hn54:=(hch4.fr.cell (p:=⟨w1.heap.size+1+1,5,none⟩) (ab hn5) hnF3).trans hn5
 have hn64:=(hch4.fr.cell (p:=⟨w1.heap.size+1+1,6,none⟩) (ab hn6) hnF3).trans hn6
 have hn74:=(hch4.fr.cell (p:=⟨w1.heap.size+1+1,7,none⟩) (ab hn7) hnF3).trans hn7
 have hn84:=(hch4.fr.cell (p:=⟨w1.heap.size+1+1,8,none⟩) (ab hn8) hnF3).trans hn8
 have hn94:=(hch4.fr.cell (p:=⟨w1.heap.size+1+1,9,none⟩) (ab hn9) hnF3).trans hn9
 have hn104:=(hch4.fr.cell (p:=⟨w1.heap.size+1+1,10,none⟩) (ab hn10) hnF3).trans hn10
 have hn114:=(hch4.fr.cell (p:=⟨w1.heap.size+1+1,11,none⟩) (ab hn11) hnF3).trans hn11
 have hn124:=(hch4.fr.cell (p:=⟨w1.heap.size+1+1,12,none⟩) (ab hn12) hnF3).trans hn12
 have h14:w4.cell? ⟨w1.heap.size,1,none⟩=some (.pointer (some ⟨b,0,none⟩)):=(hch4.fr.cell (p:=⟨w1.heap.size,1,none⟩) hl1 hcF3).trans h1
 have hrb4:w4.heap[w.heap.size]?=some (.cells #[.int .u32 0,.int .u32 0,.int .u32 0,.int .u32 0,.int .u8 0,.int .u32 0,.int .u32 0,.int .u32 0,.int .u32 0,.slice none 0 0,.string ⟨#[]⟩,.int .u8 0,.slice none 0 0] 35):=(hch4.fr.block w.heap.size (by omega) ((aa H3).2.1.nF (by have:=(aa H2).2.2;omega) (aa H3).2.2.2.2.2)).trans hrb3
 have HE:=ae (gu (q'.named bk) b F3 E w4 hR4 (Q.bt (aa H3).2.2.2.2.1 bk) ((aa H3).1.g7.fr hch4.fr (aa H3).1.lo).gl)
 have hs4:ar w3 w4 F3 F3 (fun _ _=>False):=ar.cY hch4 _
 have hf04:Fr (fun _=>False) w w4:=(aa H3).2.2.2.1.trans hch4.fr (fun k hk hx=>by
  rcases(aa H3).2.1.new k hx with h|h
  ·have:=(aa H1).2.2 k h;omega
  ·have:=(aa H1).2.1.size;have:=(aa H2).2.2;omega)
 have H4:=ae (And.intro hs4 hf04)
 clear hR4 hch4 hs4 hf04 hgF3 hnF3 hcF3
 go_wp2_with fail
 refine(aa HE).mono ?_
 rintro e w5 ⟨err,rfl,hEr,hf5⟩
 have hrb5:w5.heap[w.heap.size]?=some (.cells #[.int .u32 0,.int .u32 0,.int .u32 0,.int .u32 0,.int .u8 0,.int .u32 0,.int .u32 0,.int .u32 0,.int .u32 0,.slice none 0 0,.string ⟨#[]⟩,.int .u8 0,.slice none 0 0] 35):=(hf5.block w.heap.size (by have:=(aa H4).1.size;have:=(aa H3).2.1.size;have:=(aa H2).2.2;omega) (fun h=>h)).trans hrb4
 have hv05:=(hf5.cell (p:=⟨w1.heap.size+1,0,none⟩) (ab hv04) (fun h=>h)).trans hv04
 have hn05:=(hf5.cell (p:=⟨w1.heap.size+1+1,0,none⟩) (ab hn04) (fun h=>h)).trans hn04
 have hv15:=(hf5.cell (p:=⟨w1.heap.size+1,1,none⟩) (ab hv14) (fun h=>h)).trans hv14
 have hn15:=(hf5.cell (p:=⟨w1.heap.size+1+1,1,none⟩) (ab hn14) (fun h=>h)).trans hn14
 have hv25:=(hf5.cell (p:=⟨w1.heap.size+1,2,none⟩) (ab hv24) (fun h=>h)).trans hv24
 have hn25:=(hf5.cell (p:=⟨w1.heap.size+1+1,2,none⟩) (ab hn24) (fun h=>h)).trans hn24
 have hv35:=(hf5.cell (p:=⟨w1.heap.size+1,3,none⟩) (ab hv34) (fun h=>h)).trans hv34
 have hn35:=(hf5.cell (p:=⟨w1.heap.size+1+1,3,none⟩) (ab hn34) (fun h=>h)).trans hn34
 have hv45:=(hf5.cell (p:=⟨w1.heap.size+1,4,none⟩) (ab hv44) (fun h=>h)).trans hv44
 have hn45:=(hf5.cell (p:=⟨w1.heap.size+1+1,4,none⟩) (ab hn44) (fun h=>h)).trans hn44
 have hv55:=(hf5.cell (p:=⟨w1.heap.size+1,5,none⟩) (ab hv54) (fun h=>h)).trans hv54
 have hn55:=(hf5.cell (p:=⟨w1.heap.size+1+1,5,none⟩) (ab hn54) (fun h=>h)).trans hn54
 have hv65:=(hf5.cell (p:=⟨w1.heap.size+1,6,none⟩) (ab hv64) (fun h=>h)).trans hv64
 have hn65:=(hf5.cell (p:=⟨w1.heap.size+1+1,6,none⟩) (ab hn64) (fun h=>h)).trans hn64
 have hv75:=(hf5.cell (p:=⟨w1.heap.size+1,7,none⟩) (ab hv74) (fun h=>h)).trans hv74
 have hn75:=(hf5.cell (p:=⟨w1.heap.size+1+1,7,none⟩) (ab hn74) (fun h=>h)).trans hn74
 have hv85:=(hf5.cell (p:=⟨w1.heap.size+1,8,none⟩) (ab hv84) (fun h=>h)).trans hv84
 have hn85:=(hf5.cell (p:=⟨w1.heap.size+1+1,8,none⟩) (ab hn84) (fun h=>h)).trans hn84
 have hv95:=(hf5.cell (p:=⟨w1.heap.size+1,9,none⟩) (ab hv94) (fun h=>h)).trans hv94
 have hn95:=(hf5.cell (p:=⟨w1.heap.size+1+1,9,none⟩) (ab hn94) (fun h=>h)).trans hn94
 have hv105:=(hf5.cell (p:=⟨w1.heap.size+1,10,none⟩) (ab hv104) (fun h=>h)).trans hv104
 have hn105:=(hf5.cell (p:=⟨w1.heap.size+1+1,10,none⟩) (ab hn104) (fun h=>h)).trans hn104
 have hv115:=(hf5.cell (p:=⟨w1.heap.size+1,11,none⟩) (ab hv114) (fun h=>h)).trans hv114
 have hn115:=(hf5.cell (p:=⟨w1.heap.size+1+1,11,none⟩) (ab hn114) (fun h=>h)).trans hn114
 have hv125:=(hf5.cell (p:=⟨w1.heap.size+1,12,none⟩) (ab hv124) (fun h=>h)).trans hv124
 have hn125:=(hf5.cell (p:=⟨w1.heap.size+1+1,12,none⟩) (ab hn124) (fun h=>h)).trans hn124
 have hr05:w5.cell? ⟨w.heap.size,0,none⟩=some (.int .u32 0):=by simp[World.cell?,hrb5]
 have hr15:w5.cell? ⟨w.heap.size,1,none⟩=some (.int .u32 0):=by simp[World.cell?,hrb5]
 have hr25:w5.cell? ⟨w.heap.size,2,none⟩=some (.int .u32 0):=by simp[World.cell?,hrb5]
 have hr35:w5.cell? ⟨w.heap.size,3,none⟩=some (.int .u32 0):=by simp[World.cell?,hrb5]
 have hr45:w5.cell? ⟨w.heap.size,4,none⟩=some (.int .u8 0):=by simp[World.cell?,hrb5]
 have hr55:w5.cell? ⟨w.heap.size,5,none⟩=some (.int .u32 0):=by simp[World.cell?,hrb5]
 have hr65:w5.cell? ⟨w.heap.size,6,none⟩=some (.int .u32 0):=by simp[World.cell?,hrb5]
 have hr75:w5.cell? ⟨w.heap.size,7,none⟩=some (.int .u32 0):=by simp[World.cell?,hrb5]
 have hr85:w5.cell? ⟨w.heap.size,8,none⟩=some (.int .u32 0):=by simp[World.cell?,hrb5]
 have hr95:w5.cell? ⟨w.heap.size,9,none⟩=some (.slice none 0 0):=by simp[World.cell?,hrb5]
 have hr105:w5.cell? ⟨w.heap.size,10,none⟩=some (.string ⟨#[]⟩):=by simp[World.cell?,hrb5]
 have hr115:w5.cell? ⟨w.heap.size,11,none⟩=some (.int .u8 0):=by simp[World.cell?,hrb5]
 have hr125:w5.cell? ⟨w.heap.size,12,none⟩=some (.slice none 0 0):=by simp[World.cell?,hrb5]
 have hrz5:∀ i,w5.frozen? ⟨w.heap.size,i,none⟩=false:=fun i=>by simp[World.frozen?,hrb5]
 have hrl5:=ab hr05
 have hlv5:=ab hv05
 have hln5:=ab hn05
 have hnr1:w1.heap.size+1≠w.heap.size:=by omega
 have hnr2:w1.heap.size+1+1≠w.heap.size:=by omega
 have hsF:∀ (i:Nat) v W,Fr (fun k=>k=w.heap.size) w5 W→Fr (fun k=>k=w.heap.size) w5 (W.setCell ⟨w.heap.size,i,none⟩ v):=fun i v W h=>h.setCell (.inl rfl) v
 have H5:=ae (And.intro hf5 (hEr))
 rcases hEr with ⟨h0,rfl⟩|⟨h1',h7,fb,rfl,hb⟩
 ·clear hf5
  go_wp2_with fail
  refine bodyPost_ret (v:=.tuple #[.agg #[v0,v1,v2,v3,v4,v5,v6,v7,v8,v9,v10,v11,v12],.nilIface]) (by simp[results,Tryz.results79,go_sem,hr05,hr15,hr25,hr35,hr45,hr55,hr65,hr75,hr85,hr95,hr105,hr115,hr125]) rfl ?_
  have hfin:q'.fin.2.2=0:=h0
  refine⟨_,_,rfl,.inl ⟨hfin,rfl⟩,fun h=>absurd hfin h,fun _=>⟨F3,w1.heap.size+1,?_,by omega⟩,?_⟩
  ·have hR5:=(aa H).2.1 _ _ _ _ _ _ _ ((aa H).2.1 _ _ _ _ _ _ _ (aa H3).2.2.1 (aa H4).1 (fun _ _ h=>h.elim)) (ar.bh (aa H5).1 F3 (fun _ _=>False)) (fun _ _ h=>h.elim)
   exact(aa H).2.1 _ _ _ _ _ _ _ hR5 ((((((((((((((ar.refl w5 F3 (fun k _=>k=w.heap.size)).trans (ar.set w.heap.size 0 _) (fun k j _ h=>h.1)).trans (ar.set w.heap.size 1 _) (fun k j _ h=>h.1)).trans (ar.set w.heap.size 2 _) (fun k j _ h=>h.1)).trans (ar.set w.heap.size 3 _) (fun k j _ h=>h.1)).trans (ar.set w.heap.size 4 _) (fun k j _ h=>h.1)).trans (ar.set w.heap.size 5 _) (fun k j _ h=>h.1)).trans (ar.set w.heap.size 6 _) (fun k j _ h=>h.1)).trans (ar.set w.heap.size 7 _) (fun k j _ h=>h.1)).trans (ar.set w.heap.size 8 _) (fun k j _ h=>h.1)).trans (ar.set w.heap.size 9 _) (fun k j _ h=>h.1)).trans (ar.set w.heap.size 10 _) (fun k j _ h=>h.1)).trans (ar.set w.heap.size 11 _) (fun k j _ h=>h.1)).trans (ar.set w.heap.size 12 _) (fun k j _ h=>h.1)) (fun k j h=>h)
  ·exact((((((((((((((aa H4).2.trans (aa H5).1 (fun _ _ h=>h)).setCell (.inr (Nat.le_refl _)) _).setCell (.inr (Nat.le_refl _)) _).setCell (.inr (Nat.le_refl _)) _).setCell (.inr (Nat.le_refl _)) _).setCell (.inr (Nat.le_refl _)) _).setCell (.inr (Nat.le_refl _)) _).setCell (.inr (Nat.le_refl _)) _).setCell (.inr (Nat.le_refl _)) _).setCell (.inr (Nat.le_refl _)) _).setCell (.inr (Nat.le_refl _)) _).setCell (.inr (Nat.le_refl _)) _).setCell (.inr (Nat.le_refl _)) _).setCell (.inr (Nat.le_refl _)) _
 ·have hfb:fb≠w.heap.size:=fun e=>by rw[e,hrb5] at hb;simp[aJ] at hb
  have HB5:=ae hb
  clear hf5 hb
  go_wp2_with fail
  refine bodyPost_ret (v:=.tuple #[.agg #[.int .u32 0,.int .u32 0,.int .u32 0,.int .u32 0,.int .u8 0,.int .u32 0,.int .u32 0,.int .u32 0,.int .u32 0,.slice none 0 0,.string ⟨#[]⟩,.int .u8 0,.slice none 0 0],.iface 78 (.pointer (some ⟨fb,0,none⟩))]) (by simp[results,Tryz.results79,go_sem,hr05,hr15,hr25,hr35,hr45,hr55,hr65,hr75,hr85,hr95,hr105,hr115,hr125]) rfl ?_
  have hfin:q'.fin.2.2≠0:=fun e=>by have:1≤q'.fin.2.2:=h1';omega
  refine⟨_,_,rfl,.inr ⟨h1',h7,fb,rfl,?_⟩,fun _=>rfl,fun h=>absurd h hfin,?_⟩
  ·rw[Below.heap_setCell _ _ _ _ hfb,Below.heap_setCell _ _ _ _ hfb,Below.heap_setCell _ _ _ _ hfb,Below.heap_setCell _ _ _ _ hfb,Below.heap_setCell _ _ _ _ hfb,Below.heap_setCell _ _ _ _ hfb,Below.heap_setCell _ _ _ _ hfb,Below.heap_setCell _ _ _ _ hfb,Below.heap_setCell _ _ _ _ hfb,Below.heap_setCell _ _ _ _ hfb,Below.heap_setCell _ _ _ _ hfb,Below.heap_setCell _ _ _ _ hfb,Below.heap_setCell _ _ _ _ hfb]
   exact aa HB5
  ·exact((((((((((((((aa H4).2.trans (aa H5).1 (fun _ _ h=>h)).setCell (.inr (Nat.le_refl _)) _).setCell (.inr (Nat.le_refl _)) _).setCell (.inr (Nat.le_refl _)) _).setCell (.inr (Nat.le_refl _)) _).setCell (.inr (Nat.le_refl _)) _).setCell (.inr (Nat.le_refl _)) _).setCell (.inr (Nat.le_refl _)) _).setCell (.inr (Nat.le_refl _)) _).setCell (.inr (Nat.le_refl _)) _).setCell (.inr (Nat.le_refl _)) _).setCell (.inr (Nat.le_refl _)) _).setCell (.inr (Nat.le_refl _)) _).setCell (.inr (Nat.le_refl _)) _
end Go.Proofs.YtdcopmkgmbiikaaGreatDoor
