import Derived.Test.YtdcopmkgmbiikaaGreatDoorPg7
import Derived.Test.YtdcopmkgmbiikaaGreatDoorPg5
import Derived.Test.YtdcopmkgmbiikaaGreatDoorPg1
import Derived.Test.YtdcopmkgmbiikaaGreatDoorPg2
import Derived.Maps.AppendAt
import Derived.Deep.MidRow
import Derived.Test.YtdcopmkgmbiikaaGreatDoorPg4
import Derived.Test.YtdcopmkgmbiikaaGreatDoorPg6
import Derived.Deep.Cut
import Derived.Deep.CutRange
set_option maxRecDepth 100000
set_option maxHeartbeats 4000000
set_option linter.unusedSimpArgs false
namespace Go.Proofs.YtdcopmkgmbiikaaGreatDoor
open Go.RowKit
structure PV where
 p:PT
 x:Value
def PV.cs (q:PV):List Value:=[.string q.p.nm,.int .i64 (q.p.k:Nat),.int .u64 (q.p.u:Nat),q.x,.int .i64 (q.p.wy:Nat)]
structure PV.In (w:World) (q:PV):Prop where
 src:Src w q.x q.p.b
 lt:∀ g o n c,q.x = .slice (some ⟨g,o,none⟩) (n+1) c→g<w.heap.size
def PV.yI (q:PV) (S:Nat→Prop):Prop:=∀ g o n c,q.x = .slice (some ⟨g,o,none⟩) (n+1) c→¬ S g
theorem Src.frP {w w':World} {x:Value} {l:List Nat} {S:Nat→Prop} (h:Src w x l) (hf:Fr S w w') (hS:∀ g o n c,x = .slice (some ⟨g,o,none⟩) (n+1) c→¬ S g):Src w' x l:=by
 rcases h with h|⟨g,o,c,hx,hc⟩|h
 ·exact .inl h
 ·cases l with
  | nil=>exact .inr (.inr ⟨_,c,hx,rfl⟩)
  | cons a r=>exact .inr (.inl ⟨g,o,c,hx,fun j v hv=>(hf.cell (p:=⟨g,o+j,none⟩) (ab (hc j v hv)) (hS g o _ c hx)).trans (hc j v hv)⟩)
 ·exact .inr (.inr h)
theorem PV.In.fr {w w':World} {q:PV} {S:Nat→Prop} (h:q.In w) (hf:Fr S w w') (hS:q.yI S):q.In w':=
 ⟨h.src.frP hf hS,fun g o n c e=>Nat.lt_of_lt_of_le (h.lt g o n c e) hf.size⟩
theorem PV.In.aE {w w':World} {q:PV} (h:q.In w) (hf:Fr (fun _=>False) w w'):q.In w':=h.fr hf (fun _ _ _ _ _ h=>h)
theorem PV.In.one {w:World} {q:PV} (h:q.In w):∀ u∈q.cs,u.oneCell'=true:=by
 obtain ⟨xo,xc,e⟩:=h.src.form
 intro u hu
 simp only [PV.cs,e,List.mem_cons,List.not_mem_nil,or_false] at hu
 rcases hu with rfl|rfl|rfl|rfl|rfl <;> rfl
theorem pT (l:List PV):(l.flatMap PV.cs).length=l.length * 5:=by
 induction l with
 | nil=>rfl
 | cons x r ih=>rw [List.flatMap_cons,List.length_append,ih,List.length_cons];simp only [PV.cs,List.length_cons,List.length_nil];omega
structure PL (w:World) (base:Nat) (v:Value) (L:List PV):Prop where
 row:w.ownsRow base 110 5 v L.length (L.flatMap PV.cs)
 el:∀ q∈L,q.In w∧q.yI (fun g=>v.ownBlock=some g)
theorem PL.aE {w w':World} {base:Nat} {v:Value} {L:List PV} (h:PL w base v L) (hf:Fr (fun _=>False) w w'):PL w' base v L:=
 ⟨ay h.row (fun g hg=>hf.block g (h.row.lt g hg).2 (fun h=>h)),fun q hq=>⟨(h.el q hq).1.aE hf,(h.el q hq).2⟩⟩
theorem PL.base {w:World} {base base':Nat} {v:Value} {L:List PV} (h:PL w base v L) (hb:base'≤base):PL w base' v L:=⟨aK h.row hb,h.el⟩
theorem PL.nil (w:World) (base:Nat):PL w base (.slice none 0 0) []:=⟨World.ownsRow_nil _ _ _ _,fun q hq=>by simp at hq⟩
theorem PL.form {w:World} {base:Nat} {v:Value} {L:List PV} (h:PL w base v L):∃ ao cap,v = .slice ao L.length cap:=by
 rcases h.row.2 with ⟨e,e2⟩|⟨g,cap,cur,e,_⟩
 ·have:L.length=0:=e2
  exact ⟨none,0,by rw [e,this]⟩
 ·exact ⟨some ⟨g,0,none⟩,cap,e⟩
theorem PL.cells {w:World} {base:Nat} {xo:Option Addr} {n xc:Nat} {L:List PV} (h:PL w base (.slice xo n xc) L):∀ j u,(L.flatMap PV.cs)[j]?=some u→∃ g o,xo=some ⟨g,o,none⟩∧w.cell? ⟨g,o+j,none⟩=some u:=fun j u hu=>by
 have hj:=(List.getElem?_eq_some_iff.1 hu).1
 rw [pT] at hj
 rcases h.row.2 with ⟨e,e2⟩|⟨g,cap,cur,e,_⟩
 ·have:L.length=0:=e2
  omega
 ·have e3:xo=some ⟨g,0,none⟩:=by injection e
  subst e3
  obtain rfl:n=L.length:=by injection e
  obtain rfl:xc=cap:=by injection e
  refine ⟨g,0,rfl,?_⟩
  rw [Nat.zero_add,h.row.cellAt j hj]
  exact hu
theorem Tryz.Dm:(Tryz.prog.info? 110).map (fun i=>(i.zero,i.size,i.bytes))=some (some (.agg #[.string ⟨#[]⟩,.int .i64 0,.int .u64 0,.slice none 0 0,.int .i64 0]),5,64):=by kernel_rfl
theorem PL.app {w:World} {base:Nat} {v:Value} {L:List PV} (h:PL w base v L) (hb:base≤w.heap.size) (xo:Option Addr) (xc:Nat) (X:List PV) (hxc:∀ j u,(X.flatMap PV.cs)[j]?=some u→∃ g o,xo=some ⟨g,o,none⟩∧w.cell? ⟨g,o+j,none⟩=some u)
  (hX:∀ q∈X,q.In w∧q.yI (fun g=>v.ownBlock=some g)) (hn:L.length+X.length≤16777216) (hz:xo=none→xc=0) :
  ∃ ao cap w',(Builtin.append_ #[74,74] 74 #[v,.slice xo X.length xc]).run Tryz.prog w = .ok (.slice ao (L.length+X.length) cap) w'∧PL w' base (.slice ao (L.length+X.length) cap) (L++X)∧Fr (fun g=>v.ownBlock=some g) w w' ∧
   ((Value.slice ao (L.length+X.length) cap).ownBlock=v.ownBlock∨(Value.slice ao (L.length+X.length) cap).ownBlock=some w.heap.size):=by
 obtain ⟨i0,hi,hz0,hz1,hz2⟩:=info_parts Tryz.Dm
 have h1:∀ u∈X.flatMap PV.cs,u.oneCell'=true:=fun u hu=>by
  obtain ⟨q,hq,hu⟩:=List.mem_flatMap.1 hu
  exact (hX q hq).1.one u hu
 cases xo with
 | none =>
  obtain rfl:=hz rfl
  have hX0:X=[]:=by
   cases X with
   | nil=>rfl
   | cons q r =>
    obtain ⟨g,o,e,_⟩:=hxc 0 (.string q.p.nm) (by simp [PV.cs])
    cases e
  subst hX0
  have hr:=run_append_owned_none (P:=Tryz.prog) w base 74 74 110 i0 5 Tryz.underlying74 hi v L.length _ h.row
  obtain ⟨ao,cap,rfl⟩:=h.form
  exact ⟨ao,cap,w,by simpa using hr,by simpa using h,Fr.refl _ _,.inl rfl⟩
 | some a =>
  obtain ⟨v',w',hr,h2,h3,_,h5⟩:=run_append_own_at (P:=Tryz.prog) (w:=w) base 74 74 110 i0 (.agg #[.string ⟨#[]⟩,.int .i64 0,.int .u64 0,.slice none 0 0,.int .i64 0]) 5 64 Tryz.underlying74 hi hz0 hz1 hz2 rfl (by decide) v L.length _ h.row a X.length xc (X.flatMap PV.cs) (pT X) (fun j u hu=>by
   obtain ⟨g,o,e,hc⟩:=hxc j u hu
   have e':a=⟨g,o,none⟩:=by injection e
   subst e'
   rw [addr_add]
   exact hc) h1 (by simp only [maxLen];omega) (by omega) hb
  have hf:Fr (fun g=>v.ownBlock=some g) w w':=(Fr.refl _ w).grown h3 (fun g hg=>.inl hg)
  have hform:∃ ao cap,v' = .slice ao (L.length+X.length) cap:=by
   rcases h2.2 with ⟨e,e2⟩|⟨g,cap,cur,e,_⟩
   ·exact ⟨none,0,by rw [e,e2]⟩
   ·exact ⟨some ⟨g,0,none⟩,cap,e⟩
  obtain ⟨ao,cap,rfl⟩:=hform
  refine ⟨ao,cap,w',hr,⟨by rw [List.flatMap_append,List.length_append];exact h2,fun q hq=>?_⟩,hf,h5⟩
  have hq':q.In w∧q.yI (fun g=>v.ownBlock=some g):=by
   rcases List.mem_append.1 hq with hq|hq
   ·exact h.el q hq
   ·exact hX q hq
  refine ⟨hq'.1.fr hf hq'.2,fun g o n c e hg=>?_⟩
  rcases h5 with e5|e5
  ·rw [e5] at hg
   exact hq'.2 g o n c e hg
  ·rw [e5] at hg
   have:=hq'.1.lt g o n c e
   simp only [Option.some.injEq] at hg
   omega
theorem PL.lit (w:World) (base:Nat) (X:List PV) (hb:base≤w.heap.size) (hX:∀ q∈X,q.In w) (hn:X.length≤16777216):PL (w.alloc (.cells (X.flatMap PV.cs).toArray 110)) base (.slice (some ⟨w.heap.size,0,none⟩) X.length X.length) X:=
 ⟨by
  have:=World.ownsRow_lit (base:=base) (e:=110) (size:=5) w (X.flatMap PV.cs).toArray X.length hb (by simp only [maxLen];omega) (by rw [List.size_toArray,pT])
  simpa using this,fun q hq=>⟨(hX q hq).aE (aB w _),fun g o n c e hg=>by
  have:=(hX q hq).lt g o n c e
  simp only [Value.ownBlock,Option.some.injEq] at hg
  omega⟩⟩
def Bl (B lo:Nat) (L:List PV):Prop:=∀ q∈L,∀ g o n c,q.x = .slice (some ⟨g,o,none⟩) (n+1) c→g<B∨lo≤g
theorem Bl.app {B lo:Nat} {L X:List PV} (h:Bl B lo L) (k:Bl B lo X):Bl B lo (L++X):=fun q hq=>by
 rcases List.mem_append.1 hq with hq|hq
 ·exact h q hq
 ·exact k q hq
theorem Bl.mono {B B' lo lo':Nat} {L:List PV} (h:Bl B lo L) (hB:B≤B') (hl:lo'≤lo):Bl B' lo' L:=fun q hq g o n c e=>by
 have:=h q hq g o n c e
 omega
theorem PL.lt {w:World} {base:Nat} {v:Value} {L:List PV} (h:PL w base v L):∀ g,v.ownBlock=some g→base≤g∧g<w.heap.size:=fun g hg=>h.row.lt g hg
theorem Bl.yI {w:World} {base B lo:Nat} {v:Value} {L X:List PV} (h:PL w base v L) (k:Bl B lo X) (hB:B≤base) (hl:w.heap.size≤lo):∀ q∈X,q.yI (fun g=>v.ownBlock=some g):=fun q hq g o n c e hg=>by
 have h1:=h.lt g hg
 have h2:=k q hq g o n c e
 omega
theorem PL.add {w:World} {base:Nat} {v:Value} {L:List PV} (h:PL w base v L) (hb:base≤w.heap.size) (X:List PV) (hX:∀ q∈X,q.In w) (hfar:∀ q∈X,q.yI (fun g=>v.ownBlock=some g)) (hn:L.length+X.length≤16777216) :
  ∃ ao cap w',(Builtin.append_ #[74,74] 74 #[v,.slice (some ⟨w.heap.size,0,none⟩) X.length X.length]).run Tryz.prog (w.alloc (.cells (X.flatMap PV.cs).toArray 110)) = .ok (.slice ao (L.length+X.length) cap) w'∧PL w' base (.slice ao (L.length+X.length) cap) (L++X)∧Fr (fun g=>v.ownBlock=some g) w w':=by
 have hl:=PL.lit w base X hb hX (by omega)
 obtain ⟨ao,cap,w',h1,h2,h3,_⟩:=(h.aE (aB w (.cells (X.flatMap PV.cs).toArray 110))).app (by simp;omega) (some ⟨w.heap.size,0,none⟩) X.length X hl.cells (fun q hq=>⟨(hX q hq).aE (aB w _),hfar q hq⟩) hn (fun e=>by cases e)
 exact ⟨ao,cap,w',h1,h2,((aB w _).mono (fun _ _ h=>h.elim)).trans h3 (fun _ _ h=>h)⟩
theorem yS {P:Program} {fn:Func} {R:Ending→World→Prop} {p:Tmp} {ty:TypeId} {tmps:Array Value} {w0:World} (h:fn.results = #[.cell p ty]) (cs:List Value) (d:TypeDesc) (hp:tmps.getD p undef = .pointer (some ⟨w0.heap.size,0,none⟩))
  (hu:P.underlying ty=some d) (hd:d.isRow=true) (hi:(P.info? ty).map (·.size)=some cs.length) (hR:R (.returned (.agg cs.toArray)) (w0.alloc (.cells cs.toArray ty))):bodyPost P fn R .ret ⟨tmps,[]⟩ (w0.alloc (.cells cs.toArray ty)):=by
 refine bodyPost_ret (v:=.agg cs.toArray) ?_ rfl hR
 have hp':tmps[p]?.getD undef = .pointer (some ⟨w0.heap.size,0,none⟩):=by simpa using hp
 simp [results,h,hp',asAddr,run_loadVar_mid (w0.alloc (.cells cs.toArray ty)) w0.heap.size 0 ty cs d (af (heap_alloc_new w0 _)) hu hd hi]
end Go.Proofs.YtdcopmkgmbiikaaGreatDoor
namespace Go.Proofs.YtdcopmkgmbiikaaGreatDoor
open Go.RowKit
end Go.Proofs.YtdcopmkgmbiikaaGreatDoor
namespace Go.Proofs.YtdcopmkgmbiikaaGreatDoor
open Go.RowKit
def eH (op:Nat):List Value:=
 if op=1 then [.bool false,.bool false,.bool true,.bool true,.bool false] else if op=2 then [.bool true,.bool true,.bool false,.bool true,.bool false]
 else if op=3∨op=4∨op=6 then [.bool true,.bool true,.bool false,.bool false,.bool false] else [.bool true,.bool false,.bool false,.bool false,.bool (decide (op=7))]
theorem fO {P:Program} {fn:Func} {R:Ending→World→Prop} {p:Tmp} {ty:TypeId} {tmps:Array Value} {w0:World} (h:fn.results = #[.cell p ty]) (cs:List Value) (d:TypeDesc) (hp:tmps.getD p undef = .pointer (some ⟨w0.heap.size,0,none⟩))
  (hu:P.underlying ty=some d) (hd:d.isRow=true) (hi:(P.info? ty).map (·.size)=some cs.length) (hR:R (.returned (.agg cs.toArray)) (w0.alloc (.cells cs.toArray ty))):bodyPost P fn R .ret ⟨tmps,[]⟩ (w0.alloc (.cells cs.toArray ty)):=yS h cs d hp hu hd hi hR
theorem Tryz.jx:(Tryz.prog.info? 177).map (·.size)=some 5:=by kernel_rfl
theorem Ce (w:World):Calls Tryz.prog 88 #[.int .u8 1] w fun e w'=>e = .returned (.agg (eH 1).toArray)∧Fr (fun _=>False) w w':=by
 go_enter Tryz.func88,Tryz.ntmps88
 go_wp2_with fail
 exact fO rfl (eH 1) _ (by simp) Tryz.underlying177 rfl Tryz.jx ⟨rfl,aB w _⟩
theorem B5 (w:World):Calls Tryz.prog 88 #[.int .u8 2] w fun e w'=>e = .returned (.agg (eH 2).toArray)∧Fr (fun _=>False) w w':=by
 go_enter Tryz.func88,Tryz.ntmps88
 go_wp2_with fail
 exact fO rfl (eH 2) _ (by simp) Tryz.underlying177 rfl Tryz.jx ⟨rfl,aB w _⟩
theorem Bk (w:World):Calls Tryz.prog 88 #[.int .u8 3] w fun e w'=>e = .returned (.agg (eH 3).toArray)∧Fr (fun _=>False) w w':=by
 go_enter Tryz.func88,Tryz.ntmps88
 go_wp2_with fail
 exact fO rfl (eH 3) _ (by simp) Tryz.underlying177 rfl Tryz.jx ⟨rfl,aB w _⟩
theorem B9 (w:World):Calls Tryz.prog 88 #[.int .u8 4] w fun e w'=>e = .returned (.agg (eH 4).toArray)∧Fr (fun _=>False) w w':=by
 go_enter Tryz.func88,Tryz.ntmps88
 go_wp2_with fail
 exact fO rfl (eH 4) _ (by simp) Tryz.underlying177 rfl Tryz.jx ⟨rfl,aB w _⟩
theorem A6 (w:World):Calls Tryz.prog 88 #[.int .u8 6] w fun e w'=>e = .returned (.agg (eH 6).toArray)∧Fr (fun _=>False) w w':=by
 go_enter Tryz.func88,Tryz.ntmps88
 go_wp2_with fail
 exact fO rfl (eH 6) _ (by simp) Tryz.underlying177 rfl Tryz.jx ⟨rfl,aB w _⟩
theorem Cb (w:World):Calls Tryz.prog 88 #[.int .u8 7] w fun e w'=>e = .returned (.agg (eH 7).toArray)∧Fr (fun _=>False) w w':=by
 go_enter Tryz.func88,Tryz.ntmps88
 go_wp2_with fail
 exact fO rfl (eH 7) _ (by simp) Tryz.underlying177 rfl Tryz.jx ⟨rfl,aB w _⟩
theorem A1 (op:Nat) (w:World) (h1:op≠1) (h2:op≠2) (h3:op≠3) (h4:op≠4) (h6:op≠6) (h7:op≠7):Calls Tryz.prog 88 #[.int .u8 (op:Nat)] w fun e w'=>e = .returned (.agg (eH op).toArray)∧Fr (fun _=>False) w w':=by
 have e1:((op:Int) == 1)=false:=by simp;omega
 have e2:((op:Int) == 2)=false:=by simp;omega
 have e3:((op:Int) == 3)=false:=by simp;omega
 have e4:((op:Int) == 4)=false:=by simp;omega
 have e6:((op:Int) == 6)=false:=by simp;omega
 have e7:((op:Int) == 7)=false:=by simp;omega
 have eL:eH op=[.bool true,.bool false,.bool false,.bool false,.bool false]:=by
  unfold eH
  rw [if_neg h1,if_neg h2,if_neg (by omega),decide_eq_false h7]
 rw [eL]
 go_enter Tryz.func88,Tryz.ntmps88
 go_wp2_with fail
 exact fO rfl [.bool true,.bool false,.bool false,.bool false,.bool false] _ (by simp) Tryz.underlying177 rfl Tryz.jx ⟨rfl,aB w _⟩
theorem yA (op:Nat) (w:World):Calls Tryz.prog 88 #[.int .u8 (op:Nat)] w fun e w'=>e = .returned (.agg (eH op).toArray)∧Fr (fun _=>False) w w':=by
 by_cases h1:op=1
 ·subst h1;exact Ce w
 by_cases h2:op=2
 ·subst h2;exact B5 w
 by_cases h3:op=3
 ·subst h3;exact Bk w
 by_cases h4:op=4
 ·subst h4;exact B9 w
 by_cases h6:op=6
 ·subst h6;exact A6 w
 by_cases h7:op=7
 ·subst h7;exact Cb w
 exact A1 op w h1 h2 h3 h4 h6 h7
end Go.Proofs.YtdcopmkgmbiikaaGreatDoor
namespace Go.Proofs.YtdcopmkgmbiikaaGreatDoor
open Go.RowKit
end Go.Proofs.YtdcopmkgmbiikaaGreatDoor
namespace Go.Proofs.YtdcopmkgmbiikaaGreatDoor
open Go.RowKit
end Go.Proofs.YtdcopmkgmbiikaaGreatDoor
namespace Go.Proofs.YtdcopmkgmbiikaaGreatDoor
open Go.RowKit
theorem qs.out {s t:Wq} (h:qs s t):s.out=t.out:=by unfold Wq.out;rw [h.1,h.2]
def zq (s:Wq) (c:CS) (L:List PT):Prop:=∃ t,c = .wr t∧qs t (tg s L)
theorem zq.nil (s:Wq):zq s (.wr s) []:=⟨s,rfl,qs.refl s⟩
theorem zq.then {s t:Wq} {c:CS} {a b:List PT} (h:qs t (tg s a)) (k:zq t c b):zq s c (a++b):=by
 obtain ⟨u,rfl,e⟩:=k
 refine ⟨u,rfl,e.trans ?_⟩
 rw [Az]
 exact wH b h
end Go.Proofs.YtdcopmkgmbiikaaGreatDoor
namespace Go.Proofs.YtdcopmkgmbiikaaGreatDoor
open Go.RowKit
end Go.Proofs.YtdcopmkgmbiikaaGreatDoor
namespace Go.Proofs.YtdcopmkgmbiikaaGreatDoor
open Go.RowKit
theorem Cz (a v:ByteArray) (i:Nat) (h0:i=0→a=⟨#[]⟩):fb [fun v=>dt 1 64 v.size,lI a] v=if dt 1 64 v.size=0∧0<i∧sle v a=true then 6 else dt 1 64 v.size:=by
 simp only [fb]
 by_cases hz:dt 1 64 v.size=0
 ·rw [if_pos hz]
  by_cases hi:i=0
  ·have ha:=h0 hi
   subst ha
   have hs:1≤v.size:=by
    unfold dt at hz
    split at hz
    ·cases hz
    ·split at hz
     ·cases hz
     ·omega
   have hsl:sle v ⟨#[]⟩=false:=by
    unfold sle
    have e0:(ByteArray.mk #[]).toList=[]:=by rw [Lib.toList_data]
    have e1:v.toList≠[]:=by
     rw [Lib.toList_data]
     intro e
     have h3:v.data.size=0:=by rw [← Array.length_toList,e];rfl
     have h2:v.data.size=v.size:=rfl
     omega
    rw [e0,show Op.bytesLess v.toList []=false by cases v.toList <;> rfl]
    simpa using e1
   have e6:lI ⟨#[]⟩ v=0:=by unfold lI;rw [hsl];rfl
   rw [e6,hz]
   simp [hi]
  ·have hi':0<i:=by omega
   by_cases hs:sle v a=true
   ·have e6:lI a v=6:=by unfold lI;rw [if_pos hs]
    rw [e6,hz]
    simp [hi',hs]
   ·have e6:lI a v=0:=by unfold lI;rw [if_neg hs]
    rw [e6,hz]
    simp [hs]
 ·rw [if_neg hz,if_neg (fun h=>hz h.1)]
def tk (A B:List PT):Prop:=∀ (out:List Nat) (X:List PT),tR out (A++X)=tR out (B++X)
theorem tk.refl (A:List PT):tk A A:=fun _ _=>rfl
theorem tk.trans {A B C:List PT} (h:tk A B) (k:tk B C):tk A C:=fun out X=>(h out X).trans (k out X)
theorem tk.ahead {A B:List PT} (h:tk A B):∀ C:List PT,tk (C++A) (C++B)
 | []=>h
 | p::r=>fun out X=>by
  have ih:=h.ahead r
  simp only [List.cons_append]
  unfold tR
  by_cases hw:p.wy≠0
  ·rw [if_pos hw,if_pos hw]
  ·rw [if_neg hw,if_neg hw]
   exact ih _ X
theorem tk.behind {A B:List PT} (h:tk A B) (C:List PT):tk (A++C) (B++C):=fun out X=>by
 rw [List.append_assoc,List.append_assoc]
 exact h out (C++X)
theorem tk.wrong {p:PT} (h:p.wy≠0) (a b:List PT):tk (p::a) (p::b):=fun out X=>by
 simp only [List.cons_append]
 unfold tR
 rw [if_pos h,if_pos h]
theorem tk.put {A B:List PT} (h:tk A B) (out:List Nat):tR out A=tR out B:=by
 have:=h out []
 simpa using this
theorem Aq {α:Type} (r q:α→Nat) (x:α):fb [r,q] x=if r x=0 then q x else r x:=by
 simp only [fb]
 by_cases h:r x=0 <;> by_cases h2:q x=0 <;> simp [h,h2]
theorem qP (n:Nat) (M:Int) (z:Nat):mj 0 M z (n:Int)=if M<(n:Int) then z else 0:=by
 unfold mj
 by_cases h:M<(n:Int)
 ·rw [if_pos (.inr h),if_pos h]
 ·rw [if_neg (by omega),if_neg h]
theorem zP (n:Nat) (M:Int):fb (eI 32 [mj 0 M 4]) (n:Int)=if 32<n then 2 else if M<(n:Int) then 4 else 0:=by
 unfold eI
 rw [Aq,qP,qP]
 by_cases h:32<n
 ·rw [if_pos (show (32:Int)<(n:Int) by omega),if_neg (by decide),if_pos h]
 ·rw [if_neg (show ¬ (32:Int)<(n:Int) by omega),if_pos rfl,if_neg h]
def us (op:Nat):Bool × Bool × Bool × Bool × Bool:=
 if op=1 then (false,false,true,true,false) else if op=2 then (true,true,false,true,false) else if op=3∨op=4∨op=6 then (true,true,false,false,false) else (true,false,false,false,decide (op=7))
theorem zU (op:Nat):eH op=[.bool (us op).1,.bool (us op).2.1,.bool (us op).2.2.1,.bool (us op).2.2.2.1,.bool (us op).2.2.2.2]:=by
 unfold eH us
 repeat' split
 all_goals rfl
theorem Cq (n:Int) (rs:ByteArray):fb [fun v:ByteArray=>dt 0 64 v.size,Ca n] rs=if dt 0 64 rs.size=0 then (if n<(rs.size:Int) then 4 else 0) else dt 0 64 rs.size:=by
 rw [Aq]
 unfold Ca
 rw [qP]
theorem Q.Cy (q:Q):q.gid.1.all=q.all:=by
 unfold Q.gid
 rw [Q.dP,Q.dP]
theorem Q.xM (q:Q):q.eX.1.all=q.all:=by
 unfold Q.eX
 rw [Q.bZ,Q.dP]
theorem Q.pd (q:Q) (nm:ByteArray) (u:Bool):(q.cB nm u).1.all=q.all:=by
 unfold Q.cB
 rw [Q.bZ,Q.dP]
theorem Q.qX {q:Q} (h:q.ok) (nm:ByteArray) (u:Bool):(q.cB nm u).1.ok:=by
 unfold Q.cB
 exact Q.bN (Q.fI h _ _) _ (by split <;> omega)
theorem ko {w w':World} {xo:Option Addr} {len xc:Nat} {all:List Nat} {R:List Value} {q:Q} (A:nL w xo len xc all) (hf:Fr (fun _=>False) w w') (h:QS q xo len xc all R) :
  Calls Tryz.prog 100 #[.agg R.toArray] w' fun e w''=>∃ R',e = .returned (.tuple #[.agg R'.toArray,.agg #[.int .u32 (q.gid.2.1:Nat),.int .u32 (q.gid.2.2:Nat)]])∧QS q.gid.1 xo len xc all R'∧Fr (fun _=>False) w' w'':=by
 obtain ⟨ha,ho,last,rfl,hla⟩:=h
 obtain ⟨hx,hl,hc,hb⟩:=A.aE hf
 subst ha
 rw [bT]
 refine (vK q xo len xc last w' hl ho hx hc hb hla).mono ?_
 rintro e w2 ⟨l2,rfl,h1,h2⟩
 exact ⟨(q.gid.1.rv xo len xc l2).toList,by rw [bT],⟨Q.Cy _,Q.fI (Q.fI ho _ _) _ _,l2,rfl,h1⟩,h2⟩
theorem mS {w w':World} {xo:Option Addr} {len xc:Nat} {all:List Nat} {R:List Value} {q:Q} (A:nL w xo len xc all) (hf:Fr (fun _=>False) w w') (h:QS q xo len xc all R) :
  Calls Tryz.prog 104 #[.agg R.toArray] w' fun e w''=>∃ R',e = .returned (.tuple #[.agg R'.toArray,.int .u8 (q.eX.2:Nat)])∧QS q.eX.1 xo len xc all R'∧Fr (fun _=>False) w' w'':=by
 obtain ⟨ha,ho,last,rfl,hla⟩:=h
 obtain ⟨hx,hl,hc,hb⟩:=A.aE hf
 subst ha
 rw [bT]
 refine (pL q xo len xc last w' hl ho hx hc hb hla).mono ?_
 rintro e w2 ⟨l2,rfl,h1,h2⟩
 exact ⟨(q.eX.1.rv xo len xc l2).toList,by rw [bT],⟨Q.xM _,Q.bN (Q.fI ho _ _) _ (by split <;> omega),l2,rfl,h1⟩,h2⟩
theorem gL {w w':World} {xo:Option Addr} {len xc:Nat} {all:List Nat} {R:List Value} {q:Q} (A:nL w xo len xc all) (hf:Fr (fun _=>False) w w') (h:QS q xo len xc all R) (nm:ByteArray) (u:Bool) :
  Calls Tryz.prog 101 #[.agg R.toArray,.string nm,.bool u] w' fun e w''=>∃ R',e = .returned (.tuple #[.agg R'.toArray,.int .u32 ((q.cB nm u).2:Nat)])∧QS (q.cB nm u).1 xo len xc all R'∧Fr (fun _=>False) w' w'':=by
 obtain ⟨ha,ho,last,rfl,hla⟩:=h
 obtain ⟨hx,hl,hc,hb⟩:=A.aE hf
 subst ha
 rw [bT]
 cases u
 ·refine (vV q nm xo len xc last w' hl ho hx hc hb hla).mono ?_
  rintro e w2 ⟨l2,rfl,h1,h2⟩
  exact ⟨((q.cB nm false).1.rv xo len xc l2).toList,by rw [bT],⟨Q.pd _ _ _,Q.qX ho _ _,l2,rfl,h1⟩,h2⟩
 ·refine (uK q nm xo len xc last w' hl ho hx hc hb hla).mono ?_
  rintro e w2 ⟨l2,rfl,h1,h2⟩
  exact ⟨((q.cB nm true).1.rv xo len xc l2).toList,by rw [bT],⟨Q.pd _ _ _,Q.qX ho _ _,l2,rfl,h1⟩,h2⟩
def Q.r2 (q:Q):Q × Nat:=q.gid.1.cf ja 4
def Q.r3 (q:Q):Q × Nat:=q.r2.1.cf xw 1
def Q.D0 (q:Q):Q:=q.r3.1.ai (bL 1 7 5 q.r3.2)
def Q.r4 (q:Q):Q × Nat:=q.D0.cB db (us q.r3.2).1
def Q.r5 (q:Q):Q × Nat:=q.r4.1.cB cy (us q.r3.2).2.1
def Q.DC (q:Q):Q:=q.r5.1.ai (if q.r3.2=6∧1<q.r5.2 then 4 else 0)
def Q.r6 (q:Q):Q × Nat:=q.DC.cB jv (us q.r3.2).2.2.1
def Q.r7 (q:Q):Q × Nat:=q.r6.1.cB gN (us q.r3.2).2.2.1
def Q.r8 (q:Q) (i:Nat):Q × List cJ × ByteArray:=(q.r7.1.bE (us q.r3.2).2.2.2.1).dX (decide (q.r3.2=2)) i
def Q.r9 (q:Q) (i:Nat):Q × List Nat:=(q.r8 i).1.many eB 0 64
def Q.ts (q:Q) (i:Nat):Q:=(q.r9 i).1.ai (if (us q.r3.2).2.2.2.2=false∧0<(q.r9 i).2.length then 4 else 0)
def Q.gO (q:Q) (i:Nat):ew:=⟨q.gid.2.1,q.gid.2.2,q.r2.2,q.r3.2,q.r4.2,q.r5.2,q.r6.2,q.r7.2,(q.r8 i).2.1,strOf (q.r9 i).2⟩
def Q.th (q:Q) (i:Nat):Prop:=i≤(q.r7.1.cm ak 32).2∧(i=(q.r7.1.cm ak 32).2∨(q.r8 i).1.f≠none)
def tp (w W W':World):Prop:=Fr (fun k=>k<w.heap.size+4) W W'
theorem tp.refl (w W:World):tp w W W:=Fr.refl _ _
theorem tp.call {w W W1 W2:World} (h:tp w W W1) (hf:Fr (fun _=>False) W1 W2):tp w W W2:=h.trans hf (fun _ _ h=>h.elim)
theorem tp.bp {w W W1 W2:World} (h:tp w W W1) (hf:Fr (fun k=>k=w.heap.size) W1 W2):tp w W W2:=h.trans hf (fun k _ e=>by show k<w.heap.size+4;omega)
theorem tp.bU {w W W1:World} (h:tp w W W1) (i:Nat) (v:Value):tp w W (W1.setCell ⟨w.heap.size+1+1+1,i,none⟩ v):=h.trans ((Fr.refl (fun k=>k=w.heap.size+1+1+1) W1).setCell (p:=⟨w.heap.size+1+1+1,i,none⟩) (.inl rfl) v) (fun k _ e=>by show k<w.heap.size+4;omega)
theorem tp.yJ {w W W1:World} (h:tp w W W1) {b:Nat} {o:Obj} (hb:W.heap[b]?=some o) (h4:w.heap.size+4≤b):W1.heap[b]?=some o:=(h.block b ((by rcases Nat.lt_or_ge b W.heap.size with h'|h';exact h';rw [Array.getElem?_eq_none h'] at hb;cases hb)) (fun e=>by omega)).trans hb
theorem Tryz.gg:(Tryz.prog.info? 30).map (·.size)=some 10:=by kernel_rfl
def lp:List Value:=[.int .u32 0,.int .u32 0,.int .u32 0,.int .u8 0,.int .u32 0,.int .u32 0,.int .u32 0,.int .u32 0,.slice none 0 0,.string ⟨#[]⟩]
theorem gf {n:Nat} (h:n<4294967296):IntKind.u32.wrap ((n:Nat):Int)=(n:Int):=by rw [IntKind.wrap_u32];omega
theorem vU {n:Nat} (h:n<256):IntKind.u8.wrap ((n:Nat):Int)=(n:Int):=by rw [IntKind.wrap_u8];omega
theorem Tryz.Bz:(Tryz.prog.info? 177).map (·.size)=some 5:=by kernel_rfl
theorem BX.cO {w W W':World} {T:TypeId} {R Z V:List Value} {S:Nat→Prop} (h:BX w W T R Z V) (hf:Fr S W W') (hS:∀ k,S k→w.heap.size+4≤k):BX w W' T R Z V:=by
 have hl:=h.lt
 exact ⟨(hf.block _ (by omega) (fun h=>by have:=hS _ h;omega)).trans h.b0,(hf.block _ (by omega) (fun h=>by have:=hS _ h;omega)).trans h.b1,(hf.block _ (by omega) (fun h=>by have:=hS _ h;omega)).trans h.b2,(hf.block _ (by omega) (fun h=>by have:=hS _ h;omega)).trans h.b3,h.fr.trans hf (fun k hk e=>by have:=hS _ e;omega),h.n⟩
theorem Ei {op ve:Nat} (h6:op=6):(if decide ((ve:Int) > 1)=true then 4 else 0)=(if op=6∧1<ve then 4 else 0):=by
 by_cases hz:1<ve
 ·rw [if_pos (show decide ((ve:Int) > 1)=true from decide_eq_true (by omega)),if_pos ⟨h6,hz⟩]
 ·rw [if_neg (show ¬ decide ((ve:Int) > 1)=true by simp;omega),if_neg (fun h=>hz h.2)]
theorem Ek {op ve:Nat} (h6:¬ op=6):(if false=true then 4 else 0)=(if op=6∧1<ve then 4 else 0):=by
 rw [if_neg (show ¬ false=true by decide),if_neg (fun h=>h6 h.1)]
theorem BX.jQ {w W:World} {T:TypeId} {R R' Z V:List Value} (h:BX w W T R Z V) {q:Q} {xo:Option Addr} {len xc:Nat} {all:List Nat} (hR:QS q xo len xc all R') (hz:Z.length=V.length) (hi:(Tryz.prog.info? T).map (·.size)=some V.length) (h1:∀ v∈V,v.oneCell'=true) :
  (∃ W1 W2,(Instr.storeAt 120 (.pointer (some ⟨w.heap.size+1,0,none⟩)) (.agg R'.toArray)).run Tryz.prog W = .ok () W1∧(Instr.storeAt T (.pointer (some ⟨w.heap.size+1+1,0,none⟩)) (.agg V.toArray)).run Tryz.prog W1 = .ok () W2∧Fr (fun k=>k=w.heap.size+1∨k=w.heap.size+1+1) W W1∧Fr (fun k=>k=w.heap.size+1∨k=w.heap.size+1+1) W W2∧BE w W2 T R' V):=by
 have hl:=h.lt
 obtain ⟨W1,e1,c1,f1⟩:=bQ (P:=Tryz.prog) (ty:=120) tm R' h.b1 (by rw [hR.len];rfl) (by rw [hR.len];exact Tryz.al) hR.one
 have hs:=f1.size
 obtain ⟨W2,e2,c2,f2⟩:=bQ (P:=Tryz.prog) (ty:=T) Z V ((f1.block _ (by omega) (fun h=>by omega)).trans h.b2) hz hi h1
 have g1:=f1.mono (T:=fun k=>k=w.heap.size+1∨k=w.heap.size+1+1) (fun _ _ h=>.inl h)
 have g2:=g1.trans f2 (fun k hk e=>.inr e)
 exact ⟨W1,W2,e1,e2,g1,g2,(f2.block _ (by omega) (fun h=>by omega)).trans c1,c2,h.fr.trans g2 (fun k hk e=>by omega)⟩
theorem eZ {w:World} {xo:Option Addr} {len xc:Nat} {all:List Nat} {R:List Value} {q:Q} (A:nL w xo len xc all) (h:QS q xo len xc all R) :
  Calls Tryz.prog 59 #[.agg R.toArray] w fun e w'=>∃ R' v i,e = .returned (.tuple #[.agg R'.toArray,.agg ((q.gO i).aF v)])∧q.th i∧QS (q.ts i) xo len xc all R'∧dI w' w.heap.size v (q.r8 i).2.1 (fun _=>False)∧Fr (fun _=>False) w w':=by
 have HA:=ae A
 have HQ:=ae h
 obtain ⟨s1,e1⟩:∃ x,q.gid=x:=⟨_,rfl⟩
 obtain ⟨s2,e2⟩:∃ x,q.r2=x:=⟨_,rfl⟩
 obtain ⟨s3,e3⟩:∃ x,q.r3=x:=⟨_,rfl⟩
 obtain ⟨q3,e3f⟩:∃ x,q.D0=x:=⟨_,rfl⟩
 obtain ⟨op,eop⟩:∃ x,s3.2=x:=⟨_,rfl⟩
 have hac:s2.2<4294967296:=by rw [← e2];exact Q.go_lt _ 4 0
 have hop:op<256:=by rw [← eop,← e3];exact Q.go_lt _ 1 0
 have g2:s1.1.cf ja 4=s2:=by rw [← e1,← e2];rfl
 have g3:s2.1.cf xw 1=s3:=by rw [← e2,← e3];rfl
 have g3f:s3.1.ai (bL 1 7 5 op)=q3:=by rw [← eop,← e3f,← e3];rfl
 obtain ⟨u1,u2,u3,u4,u5,hu⟩:∃ u1 u2 u3 u4 u5,us op=(u1,u2,u3,u4,u5):=⟨_,_,_,_,_,rfl⟩
 have hu':us q.r3.2=(u1,u2,u3,u4,u5):=by rw [e3,eop,hu]
 obtain ⟨s4,e4⟩:∃ x,q.r4=x:=⟨_,rfl⟩
 obtain ⟨s5,e5⟩:∃ x,q.r5=x:=⟨_,rfl⟩
 obtain ⟨q5,e5f⟩:∃ x,q.DC=x:=⟨_,rfl⟩
 obtain ⟨s6,e6⟩:∃ x,q.r6=x:=⟨_,rfl⟩
 obtain ⟨s7,e7⟩:∃ x,q.r7=x:=⟨_,rfl⟩
 have g4:q3.cB db u1=s4:=by rw [← e3f,← e4];unfold Q.r4;rw [hu']
 have g5:s4.1.cB cy u2=s5:=by rw [← e4,← e5];unfold Q.r5;rw [hu']
 obtain ⟨ve,eve⟩:∃ x,s5.2=x:=⟨_,rfl⟩
 have g5f:s5.1.ai (if op=6∧1<ve then 4 else 0)=q5:=by rw [← eve,← e5f];unfold Q.DC;rw [e3,eop,e5]
 have g6:q5.cB jv u3=s6:=by rw [← e5f,← e6];unfold Q.r6;rw [hu']
 have g7:s6.1.cB gN u3=s7:=by rw [← e6,← e7];unfold Q.r7;rw [hu']
 have g8:∀ i,(s7.1.bE u4).dX (decide (op=2)) i=q.r8 i:=fun i=>by rw [← e7];unfold Q.r8;rw [hu',e3,eop]
 have g9:∀ i,(q.r8 i).1.many eB 0 64=q.r9 i:=fun i=>rfl
 have g9f:∀ i,(q.r9 i).1.ai (if u5=false∧0<(q.r9 i).2.length then 4 else 0)=q.ts i:=fun i=>by unfold Q.ts;rw [hu']
 have hgu:=fun wx=>yA op wx
 rw [zU,hu] at hgu
 have HU:=ae hgu
 have HE:=ae (And.intro e1 (And.intro e2 (And.intro e3 (And.intro e3f eop))))
 have HE2:=ae (And.intro e4 (And.intro e5 (And.intro e6 e7)))
 have HG:=ae (And.intro g2 (And.intro g3 g3f))
 have HG2:=ae (And.intro g4 (And.intro g5 (And.intro eve (And.intro g5f (And.intro g6 (And.intro g7 (And.intro g8 (And.intro g9 g9f))))))))
 clear e1 e2 e3 e3f e4 e5 e5f e6 e7 eve g2 g3 g3f g4 g5 g5f g6 g7 g8 g9 g9f hu hu' hgu
 obtain ⟨ha,ho,last,rfl,hla⟩:=h
 rw [bT]
 have HB0:=ae (BX.start w 30 (q.rv xo len xc last).toList lp rfl)
 unfold Q.rv at HB0 ⊢
 clear ha ho hla A
 go_enter Tryz.func59,Tryz.ntmps59
 go_wp2_with fail
 refine (ko (aa HA) (mv _ _ _ _ _) (aa HQ)).mono ?_
 rintro e wa1 ⟨Ra1,rfl,hQa,hfa⟩
 rw [(aa HE).1] at hQa ⊢
 obtain ⟨wb1,hst,hBb,hfb⟩:=((aa HB0).aE hfa).bp hQa
 have HST:=ae hst
 have HB1b:=ae hBb
 have HQ1:=ae hQa
 clear hst hBb hfb hfa hQa HB0 HQ   
 have r0:=(aa HB1b).cell 0 _ rfl
 have z0:=(aa HB1b).fD 0
 have l0:=ab r0
 have r1:=(aa HB1b).cell 1 _ rfl
 have z1:=(aa HB1b).fD 1
 have l1:=ab r1
 go_upto_region 3 with (first|((with_reducible refine aw ?_);refine ag rfl 120 (.tmp 1) (.tmp 11) rfl _ _ rfl rfl (aa HST) ?_))
 clear HST
 have HB2:Hid (BX w _ 30 Ra1 lp [.int .u32 (s1.2.1:Nat),.int .u32 (s1.2.2:Nat),.int .u32 0,.int .u8 0,.int .u32 0,.int .u32 0,.int .u32 0,.int .u32 0,.slice none 0 0,.string ⟨#[]⟩]):=ae (((aa HB1b).bU 0 (.int .u32 (s1.2.1:Nat))).bU 1 (.int .u32 (s1.2.2:Nat)))
 clear r0 z0 l0 r1 z1 l1
 clear HB1b 
 go_wp2_with (first|((with_reducible refine aA 15 ?_);refine wpList_load_mid rfl 120 (.tmp 1) rfl w.heap.size 0 rfl _ _ (af (aa HB2).b0) Tryz.underlying120 rfl (by rw [(aa HB2).n];exact Tryz.al) ?_))
 refine (dZ (aa HA) (aa HB2).fr (aa HQ1) ja 4 (.inr (.inl rfl))).mono ?_
 rintro e wa3 ⟨Ra3,rfl,hQa,hfa⟩
 rw [(aa HG).1] at hQa ⊢
 obtain ⟨wb3,hst,hBb,hfb⟩:=((aa HB2).aE hfa).bp hQa
 have hw:=gf hac
 have HST:=ae hst
 have HB3b:=ae hBb
 have HQ3:=ae hQa
 clear hst hBb hfb hfa hQa HB2 HQ1   
 have r2:=(aa HB3b).cell 2 _ rfl
 have z2:=(aa HB3b).fD 2
 have l2:=ab r2
 go_upto_region 5 with (first|((with_reducible refine aw ?_);refine ag rfl 120 (.tmp 1) (.tmp 17) rfl _ _ rfl rfl (aa HST) ?_))
 clear HST
 have HB4:Hid (BX w _ 30 Ra3 lp [.int .u32 (s1.2.1:Nat),.int .u32 (s1.2.2:Nat),.int .u32 (s2.2:Nat),.int .u8 0,.int .u32 0,.int .u32 0,.int .u32 0,.int .u32 0,.slice none 0 0,.string ⟨#[]⟩]):=ae ((aa HB3b).bU 2 (.int .u32 (s2.2:Nat)))
 clear r2 z2 l2
 clear HB3b 
 clear hw hac
 go_wp2_with (first|((with_reducible refine aA 23 ?_);refine wpList_load_mid rfl 120 (.tmp 1) rfl w.heap.size 0 rfl _ _ (af (aa HB4).b0) Tryz.underlying120 rfl (by rw [(aa HB4).n];exact Tryz.al) ?_))
 refine (dZ (aa HA) (aa HB4).fr (aa HQ3) xw 1 (.inl rfl)).mono ?_
 rintro e wa5 ⟨Ra5,rfl,hQa,hfa⟩
 rw [(aa HG).2.1] at hQa ⊢
 rw [eop]
 obtain ⟨wb5,hst,hBb,hfb⟩:=((aa HB4).aE hfa).bp hQa
 have HST:=ae hst
 have HB5b:=ae hBb
 have HQ5:=ae hQa
 clear hst hBb hfb hfa hQa HB4 HQ3   
 go_upto_region 6 with (first|((with_reducible refine aw ?_);refine ag rfl 120 (.tmp 1) (.tmp 25) rfl _ _ rfl rfl (aa HST) ?_))
 clear HST
 go_cut [] from 27 to 34 (fun wx=>∃ R',QS q3 xo len xc all R'∧BX w wx 30 R' lp [.int .u32 (s1.2.1:Nat),.int .u32 (s1.2.2:Nat),.int .u32 (s2.2:Nat),.int .u8 0,.int .u32 0,.int .u32 0,.int .u32 0,.int .u32 0,.slice none 0 0,.string ⟨#[]⟩])
 case first =>
  have hfk:∀ so,(if so=true then 5 else 0)=bL 1 7 5 op→∀ w',Calls Tryz.prog 99 #[.agg Ra5.toArray,.bool so,.int .i64 (5:Nat)] w' fun e w''=>∃ R',e = .returned (.agg R'.toArray)∧QS q3 xo len xc all R'∧Fr (fun _=>False) w' w'':=fun so h w'=>by
   have hb:=fF (w':=w') (aa HA).hl (aa HQ5) so 5 _ (by decide) (by decide) h
   rw [(aa HG).2.2] at hb
   exact hb
  have HK:=ae hfk
  clear hfk
  rcases (by omega:op<1∨7<op∨(1≤op∧op≤7)) with h3|h3|⟨h3,h4⟩
  ·have c1:decide ((op:Int)<1)=true:=decide_eq_true (by omega)
   have c2:decide (7<(op:Int))=false:=decide_eq_false (by omega)
   have c3:decide ((op:Int) > 7)=false:=decide_eq_false (by omega)
   go_wp2_with (first|((with_reducible refine aA 27 ?_);refine wpList_load_mid rfl 120 (.tmp 1) rfl w.heap.size 0 rfl _ _ (af (aa HB5b).b0) Tryz.underlying120 rfl (by rw [(aa HB5b).n];exact Tryz.al) ?_))
   refine ((aa HK) _ (by simp [bL];omega) _).mono ?_
   rintro e wg ⟨Rg,rfl,hQg,hfg⟩
   obtain ⟨wh,hst,hBh,_⟩:=((aa HB5b).aE hfg).bp hQg
   have HST:=ae hst
   have HX:=ae (And.intro hQg hBh)
   clear hst hQg hBh hfg
   go_wp2_with (first|((with_reducible refine aw ?_);refine ag rfl 120 (.tmp 1) (.tmp 34) rfl _ _ rfl rfl (aa HST) ?_))
   go_meet
   case rel=>exact ⟨Rg,(aa HX).1,(aa HX).2⟩
  ·have c1:decide ((op:Int)<1)=false:=decide_eq_false (by omega)
   have c2:decide (7<(op:Int))=true:=decide_eq_true (by omega)
   have c3:decide ((op:Int) > 7)=true:=decide_eq_true (by omega)
   go_wp2_with (first|((with_reducible refine aA 27 ?_);refine wpList_load_mid rfl 120 (.tmp 1) rfl w.heap.size 0 rfl _ _ (af (aa HB5b).b0) Tryz.underlying120 rfl (by rw [(aa HB5b).n];exact Tryz.al) ?_))
   refine ((aa HK) _ (by simp [bL];omega) _).mono ?_
   rintro e wg ⟨Rg,rfl,hQg,hfg⟩
   obtain ⟨wh,hst,hBh,_⟩:=((aa HB5b).aE hfg).bp hQg
   have HST:=ae hst
   have HX:=ae (And.intro hQg hBh)
   clear hst hQg hBh hfg
   go_wp2_with (first|((with_reducible refine aw ?_);refine ag rfl 120 (.tmp 1) (.tmp 34) rfl _ _ rfl rfl (aa HST) ?_))
   go_meet
   case rel=>exact ⟨Rg,(aa HX).1,(aa HX).2⟩
  ·have c1:decide ((op:Int)<1)=false:=decide_eq_false (by omega)
   have c2:decide (7<(op:Int))=false:=decide_eq_false (by omega)
   have c3:decide ((op:Int) > 7)=false:=decide_eq_false (by omega)
   go_wp2_with (first|((with_reducible refine aA 27 ?_);refine wpList_load_mid rfl 120 (.tmp 1) rfl w.heap.size 0 rfl _ _ (af (aa HB5b).b0) Tryz.underlying120 rfl (by rw [(aa HB5b).n];exact Tryz.al) ?_))
   refine ((aa HK) _ (by simp [bL];omega) _).mono ?_
   rintro e wg ⟨Rg,rfl,hQg,hfg⟩
   obtain ⟨wh,hst,hBh,_⟩:=((aa HB5b).aE hfg).bp hQg
   have HST:=ae hst
   have HX:=ae (And.intro hQg hBh)
   clear hst hQg hBh hfg
   go_wp2_with (first|((with_reducible refine aw ?_);refine ag rfl 120 (.tmp 1) (.tmp 34) rfl _ _ rfl rfl (aa HST) ?_))
   go_meet
   case rel=>exact ⟨Rg,(aa HX).1,(aa HX).2⟩
 case rest =>
  obtain ⟨Rc,hQc,hBc⟩:=hcut
  rename World=>wc
  clear HB5b HQ5
  have HBc:=ae hBc
  have HQc:=ae hQc
  clear hQc hBc
  have hw:=vU hop
  have r3:=(aa HBc).cell 3 _ rfl
  have z3:=(aa HBc).fD 3
  have l3:=ab r3
  go_upto_region 8 with fail
  clear hw
  have HB6:Hid (BX w _ 30 Rc lp [.int .u32 (s1.2.1:Nat),.int .u32 (s1.2.2:Nat),.int .u32 (s2.2:Nat),.int .u8 (op:Nat),.int .u32 0,.int .u32 0,.int .u32 0,.int .u32 0,.slice none 0 0,.string ⟨#[]⟩]):=ae ((aa HBc).bU 3 (.int .u8 (op:Nat)))
  clear r3 z3 l3
  clear HBc 
  have r3:=(aa HB6).cell 3 _ rfl
  have z3:=(aa HB6).fD 3
  have l3:=ab r3
  go_wp2_with fail
  refine ((aa HU) _).mono ?_
  rintro e wu ⟨rfl,hfu⟩
  have hBu:=(aa HB6).aE hfu
  have hlu:=hBu.lt
  obtain ⟨wv,hst,hbv,hfv⟩:=bQ (P:=Tryz.prog) (ty:=177) [.bool false,.bool false,.bool false,.bool false,.bool false] [.bool u1,.bool u2,.bool u3,.bool u4,.bool u5] (heap_alloc_new wu (.cells #[.bool false,.bool false,.bool false,.bool false,.bool false] 177)) rfl Tryz.Bz (by simp [Value.oneCell'])
  have HBv:=ae ((hBu.aE ((Fr.refl _ wu).alloc (.cells #[.bool false,.bool false,.bool false,.bool false,.bool false] 177))).cO hfv (fun k hk=>by omega))
  have HUb:=ae (fun W (hf:tp w wv W)=>hf.yJ hbv (by omega))
  have HF0:=ae (tp.refl w wv)
  have HST:=ae hst
  clear hBu hlu hst hbv hfv hfu HU HB6 r3 z3 l3
  go_upto_region 9 with (first|((with_reducible refine aw ?_);refine ag rfl 177 (.tmp 6) (.tmp 40) rfl _ _ rfl rfl (aa HST) ?_))
  clear HST
  have q0:World.cell? _ ⟨wu.heap.size,0,none⟩=some (.bool u1):=af ((aa HUb) _ (aa HF0)) 0 _ rfl
  go_wp2_with (first|((with_reducible refine aA 42 ?_);refine wpList_load_mid rfl 120 (.tmp 1) rfl w.heap.size 0 rfl _ _ (af (aa HBv).b0) Tryz.underlying120 rfl (by rw [(aa HBv).n];exact Tryz.al) ?_))
  refine (gL (aa HA) (aa HBv).fr (aa HQc) db u1).mono ?_
  rintro e wa7 ⟨Ra7,rfl,hQa,hfa⟩
  rw [(aa HG2).1] at hQa ⊢
  obtain ⟨wb7,hst,hBb,hfb⟩:=((aa HBv).aE hfa).bp hQa
  have HF7:=ae (((aa HF0).call hfa).bp hfb)
  have HST:=ae hst
  have HB7b:=ae hBb
  have HQ7:=ae hQa
  clear hst hBb hfb hfa hQa HBv HQc HF0  q0
  have r4:=(aa HB7b).cell 4 _ rfl
  have z4:=(aa HB7b).fD 4
  have l4:=ab r4
  go_upto_region 10 with (first|((with_reducible refine aw ?_);refine ag rfl 120 (.tmp 1) (.tmp 46) rfl _ _ rfl rfl (aa HST) ?_))
  clear HST
  have HB8:Hid (BX w _ 30 Ra7 lp [.int .u32 (s1.2.1:Nat),.int .u32 (s1.2.2:Nat),.int .u32 (s2.2:Nat),.int .u8 (op:Nat),.int .u32 (s4.2:Nat),.int .u32 0,.int .u32 0,.int .u32 0,.slice none 0 0,.string ⟨#[]⟩]):=ae ((aa HB7b).bU 4 (.int .u32 (s4.2:Nat)))
  have HF8:=ae ((aa HF7).bU 4 (.int .u32 (s4.2:Nat)))
  clear r4 z4 l4
  clear HB7b HF7
  have q1:World.cell? _ ⟨wu.heap.size,1,none⟩=some (.bool u2):=af ((aa HUb) _ (aa HF8)) 1 _ rfl
  go_wp2_with (first|((with_reducible refine aA 50 ?_);refine wpList_load_mid rfl 120 (.tmp 1) rfl w.heap.size 0 rfl _ _ (af (aa HB8).b0) Tryz.underlying120 rfl (by rw [(aa HB8).n];exact Tryz.al) ?_))
  refine (gL (aa HA) (aa HB8).fr (aa HQ7) cy u2).mono ?_
  rintro e wa9 ⟨Ra9,rfl,hQa,hfa⟩
  rw [(aa HG2).2.1] at hQa ⊢
  rw [(aa HG2).2.2.1]
  obtain ⟨wb9,hst,hBb,hfb⟩:=((aa HB8).aE hfa).bp hQa
  have HF9:=ae (((aa HF8).call hfa).bp hfb)
  have HST:=ae hst
  have HB9b:=ae hBb
  have HQ9:=ae hQa
  clear hst hBb hfb hfa hQa HB8 HQ7 HF8  q1
  have r5:=(aa HB9b).cell 5 _ rfl
  have z5:=(aa HB9b).fD 5
  have l5:=ab r5
  go_upto_region 11 with (first|((with_reducible refine aw ?_);refine ag rfl 120 (.tmp 1) (.tmp 54) rfl _ _ rfl rfl (aa HST) ?_))
  clear HST
  have HB10:Hid (BX w _ 30 Ra9 lp [.int .u32 (s1.2.1:Nat),.int .u32 (s1.2.2:Nat),.int .u32 (s2.2:Nat),.int .u8 (op:Nat),.int .u32 (s4.2:Nat),.int .u32 (ve:Nat),.int .u32 0,.int .u32 0,.slice none 0 0,.string ⟨#[]⟩]):=ae ((aa HB9b).bU 5 (.int .u32 (ve:Nat)))
  have HF10:=ae ((aa HF9).bU 5 (.int .u32 (ve:Nat)))
  clear r5 z5 l5
  clear HB9b HF9
  go_cut [] from 57 to 66 (fun wx=>∃ R',QS q5 xo len xc all R'∧BX w wx 30 R' lp [.int .u32 (s1.2.1:Nat),.int .u32 (s1.2.2:Nat),.int .u32 (s2.2:Nat),.int .u8 (op:Nat),.int .u32 (s4.2:Nat),.int .u32 (ve:Nat),.int .u32 0,.int .u32 0,.slice none 0 0,.string ⟨#[]⟩]∧tp w wv wx)
  case first =>
   have hfk:∀ so,(if so=true then 4 else 0)=(if op=6∧1<ve then 4 else 0)→∀ w',Calls Tryz.prog 99 #[.agg Ra9.toArray,.bool so,.int .i64 (4:Nat)] w' fun e w''=>∃ R',e = .returned (.agg R'.toArray)∧QS q5 xo len xc all R'∧Fr (fun _=>False) w' w'':=fun so h w'=>by
    have hb:=fF (w':=w') (aa HA).hl (aa HQ9) so 4 _ (by decide) (by decide) h
    rw [(aa HG2).2.2.2.1] at hb
    exact hb
   have HK:=ae hfk
   clear hfk
   have r3:=(aa HB10).cell 3 _ rfl
   have z3:=(aa HB10).fD 3
   have l3:=ab r3
   have r5:=(aa HB10).cell 5 _ rfl
   have z5:=(aa HB10).fD 5
   have l5:=ab r5
   by_cases h6:op=6
   ·have e6:((op:Int) == 6)=true:=by simp;omega
    have H6:=ae h6
    clear h6
    go_wp2_with (first|((with_reducible refine aA 57 ?_);refine wpList_load_mid rfl 120 (.tmp 1) rfl w.heap.size 0 rfl _ _ (af (aa HB10).b0) Tryz.underlying120 rfl (by rw [(aa HB10).n];exact Tryz.al) ?_))
    refine ((aa HK) _ (Ei (aa H6)) _).mono ?_
    rintro e wg ⟨Rg,rfl,hQg,hfg⟩
    obtain ⟨wh,hst,hBh,hfh⟩:=((aa HB10).aE hfg).bp hQg
    have HST:=ae hst
    have HX:=ae (And.intro hQg (And.intro hBh (((aa HF10).call hfg).bp hfh)))
    clear hst hQg hBh hfg hfh
    go_wp2_with (first|((with_reducible refine aw ?_);refine ag rfl 120 (.tmp 1) (.tmp 66) rfl _ _ rfl rfl (aa HST) ?_))
    go_meet
    case rel=>exact ⟨Rg,(aa HX).1,(aa HX).2.1,(aa HX).2.2⟩
   ·have e6:((op:Int) == 6)=false:=by simp;omega
    have H6:=ae h6
    clear h6
    go_wp2_with (first|((with_reducible refine aA 57 ?_);refine wpList_load_mid rfl 120 (.tmp 1) rfl w.heap.size 0 rfl _ _ (af (aa HB10).b0) Tryz.underlying120 rfl (by rw [(aa HB10).n];exact Tryz.al) ?_))
    refine ((aa HK) _ (Ek (aa H6)) _).mono ?_
    rintro e wg ⟨Rg,rfl,hQg,hfg⟩
    obtain ⟨wh,hst,hBh,hfh⟩:=((aa HB10).aE hfg).bp hQg
    have HST:=ae hst
    have HX:=ae (And.intro hQg (And.intro hBh (((aa HF10).call hfg).bp hfh)))
    clear hst hQg hBh hfg hfh
    go_wp2_with (first|((with_reducible refine aw ?_);refine ag rfl 120 (.tmp 1) (.tmp 66) rfl _ _ rfl rfl (aa HST) ?_))
    go_meet
    case rel=>exact ⟨Rg,(aa HX).1,(aa HX).2.1,(aa HX).2.2⟩
  case rest =>
   obtain ⟨Rd,hQd,hBd,hFd⟩:=hcut
   rename World=>wd
   clear HB10 HQ9 HF10
   have HBd:=ae hBd
   have HQd:=ae hQd
   have HFd:=ae hFd
   clear hQd hBd hFd
   have q2:World.cell? _ ⟨wu.heap.size,2,none⟩=some (.bool u3):=af ((aa HUb) _ (aa HFd)) 2 _ rfl
   go_wp2_with (first|((with_reducible refine aA 68 ?_);refine wpList_load_mid rfl 120 (.tmp 1) rfl w.heap.size 0 rfl _ _ (af (aa HBd).b0) Tryz.underlying120 rfl (by rw [(aa HBd).n];exact Tryz.al) ?_))
   refine (gL (aa HA) (aa HBd).fr (aa HQd) jv u3).mono ?_
   rintro e wa11 ⟨Ra11,rfl,hQa,hfa⟩
   rw [(aa HG2).2.2.2.2.1] at hQa ⊢
   obtain ⟨wb11,hst,hBb,hfb⟩:=((aa HBd).aE hfa).bp hQa
   have HF11:=ae (((aa HFd).call hfa).bp hfb)
   have HST:=ae hst
   have HB11b:=ae hBb
   have HQ11:=ae hQa
   clear hst hBb hfb hfa hQa HBd HQd HFd  q2
   have r6:=(aa HB11b).cell 6 _ rfl
   have z6:=(aa HB11b).fD 6
   have l6:=ab r6
   go_upto_region 13 with (first|((with_reducible refine aw ?_);refine ag rfl 120 (.tmp 1) (.tmp 72) rfl _ _ rfl rfl (aa HST) ?_))
   clear HST
   have HB12:Hid (BX w _ 30 Ra11 lp [.int .u32 (s1.2.1:Nat),.int .u32 (s1.2.2:Nat),.int .u32 (s2.2:Nat),.int .u8 (op:Nat),.int .u32 (s4.2:Nat),.int .u32 (ve:Nat),.int .u32 (s6.2:Nat),.int .u32 0,.slice none 0 0,.string ⟨#[]⟩]):=ae ((aa HB11b).bU 6 (.int .u32 (s6.2:Nat)))
   have HF12:=ae ((aa HF11).bU 6 (.int .u32 (s6.2:Nat)))
   clear r6 z6 l6
   clear HB11b HF11
   have q2:World.cell? _ ⟨wu.heap.size,2,none⟩=some (.bool u3):=af ((aa HUb) _ (aa HF12)) 2 _ rfl
   go_wp2_with (first|((with_reducible refine aA 76 ?_);refine wpList_load_mid rfl 120 (.tmp 1) rfl w.heap.size 0 rfl _ _ (af (aa HB12).b0) Tryz.underlying120 rfl (by rw [(aa HB12).n];exact Tryz.al) ?_))
   refine (gL (aa HA) (aa HB12).fr (aa HQ11) gN u3).mono ?_
   rintro e wa13 ⟨Ra13,rfl,hQa,hfa⟩
   rw [(aa HG2).2.2.2.2.2.1] at hQa ⊢
   obtain ⟨wb13,hst,hBb,hfb⟩:=((aa HB12).aE hfa).bp hQa
   have HF13:=ae (((aa HF12).call hfa).bp hfb)
   have HST:=ae hst
   have HB13b:=ae hBb
   have HQ13:=ae hQa
   clear hst hBb hfb hfa hQa HB12 HQ11 HF12  q2
   have r7:=(aa HB13b).cell 7 _ rfl
   have z7:=(aa HB13b).fD 7
   have l7:=ab r7
   go_upto_region 14 with (first|((with_reducible refine aw ?_);refine ag rfl 120 (.tmp 1) (.tmp 80) rfl _ _ rfl rfl (aa HST) ?_))
   clear HST
   have HB14:Hid (BX w _ 30 Ra13 lp [.int .u32 (s1.2.1:Nat),.int .u32 (s1.2.2:Nat),.int .u32 (s2.2:Nat),.int .u8 (op:Nat),.int .u32 (s4.2:Nat),.int .u32 (ve:Nat),.int .u32 (s6.2:Nat),.int .u32 (s7.2:Nat),.slice none 0 0,.string ⟨#[]⟩]):=ae ((aa HB13b).bU 7 (.int .u32 (s7.2:Nat)))
   have HF14:=ae ((aa HF13).bU 7 (.int .u32 (s7.2:Nat)))
   clear r7 z7 l7
   clear HB13b HF13
   have e2:((op:Int) == 2)=decide (op=2):=by by_cases h0:op=2 <;> simp [h0];try omega
   have q3:World.cell? _ ⟨wu.heap.size,3,none⟩=some (.bool u4):=af ((aa HUb) _ (aa HF14)) 3 _ rfl
   have r3:=(aa HB14).cell 3 _ rfl
   have z3:=(aa HB14).fD 3
   have l3:=ab r3
   go_wp2_with (first|((with_reducible refine aA 84 ?_);refine wpList_load_mid rfl 120 (.tmp 1) rfl w.heap.size 0 rfl _ _ (af (aa HB14).b0) Tryz.underlying120 rfl (by rw [(aa HB14).n];exact Tryz.al) ?_))
   refine (iH ((aa HA).aE (aa HB14).fr) (aa HQ13) u4 (decide (op=2))).mono ?_
   rintro e wa15 ⟨Ra15,fv,fi,rfl,hi1,hi2,hQa,hOa,hfa⟩
   rw [(aa HG2).2.2.2.2.2.2.1] at hQa hOa hi2
   obtain ⟨fo,fc,rfl⟩:=dc hOa.row
   have hlo:=(aa HB14).lt
   have hOa:=hOa.base (base':=w.heap.size+4) (by omega)
   obtain ⟨wb15,hst,hBb,hfb⟩:=((aa HB14).aE hfa).bp hQa
   have HF15:=ae (((aa HF14).call hfa).bp hfb)
   have HO1:=ae (hOa.cO hfb (fun k hk=>.inl (by omega)))
   have HI:=ae (And.intro hi1 hi2)
   clear hi1 hi2 hlo
   have HST:=ae hst
   have HB15b:=ae hBb
   have HQ15:=ae hQa
   clear hst hBb hfb hfa hQa HB14 HQ13 HF14  q3 hOa e2 r3 z3 l3
   have r8:=(aa HB15b).cell 8 _ rfl
   have z8:=(aa HB15b).fD 8
   have l8:=ab r8
   go_upto_region 15 with (first|((with_reducible refine aw ?_);refine ag rfl 120 (.tmp 1) (.tmp 91) rfl _ _ rfl rfl (aa HST) ?_))
   clear HST
   have HB16:Hid (BX w _ 30 Ra15 lp [.int .u32 (s1.2.1:Nat),.int .u32 (s1.2.2:Nat),.int .u32 (s2.2:Nat),.int .u8 (op:Nat),.int .u32 (s4.2:Nat),.int .u32 (ve:Nat),.int .u32 (s6.2:Nat),.int .u32 (s7.2:Nat),.slice fo (q.r8 fi).2.1.length fc,.string ⟨#[]⟩]):=ae ((aa HB15b).bU 8 (.slice fo (q.r8 fi).2.1.length fc))
   have HF16:=ae ((aa HF15).bU 8 (.slice fo (q.r8 fi).2.1.length fc))
   have HO16:=ae ((aa HO1).cO (S:=fun k=>k=w.heap.size+1+1+1) (((Fr.refl (fun k=>k=w.heap.size+1+1+1) _).setCell (p:=⟨w.heap.size+1+1+1,8,none⟩) (.inl rfl) (.slice fo (q.r8 fi).2.1.length fc))) (fun k hk=>.inl (by omega)))
   clear r8 z8 l8 HB15b HF15 HO1
   obtain ⟨s9,e9⟩:∃ x,q.r9 fi=x:=⟨_,rfl⟩
   obtain ⟨rs,ers⟩:∃ x,strOf s9.2=x:=⟨_,rfl⟩
   have H9:=ae (And.intro e9 ers)
   clear e9 ers
   go_wp2_with (first|((with_reducible refine aA 95 ?_);refine wpList_load_mid rfl 120 (.tmp 1) rfl w.heap.size 0 rfl _ _ (af (aa HB16).b0) Tryz.underlying120 rfl (by rw [(aa HB16).n];exact Tryz.al) ?_))
   refine (km (aa HA) (aa HB16).fr (aa HQ15) eB 0 64 (by decide)).mono ?_
   rintro e wa17 ⟨Ra17,sx,sn,sc,rfl,hQa,hsa,hna,hfa⟩
   rw [(aa HG2).2.2.2.2.2.2.2.1,(aa H9).1] at hQa hsa
   have hlz:=(aa HB16).lt
   have hsn:sn=s9.2.length:=by obtain ⟨_,_,e⟩:=hsa.form;cases e;rfl
   have HSN:=ae hsn
   clear hsn
   obtain ⟨wb17,hst,hBb,hfb⟩:=((aa HB16).aE hfa).bp hQa
   have HF17:=ae (((aa HF16).call hfa).bp hfb)
   have HO17:=ae (((aa HO16).cO hfa (fun _ h=>h.elim)).cO hfb (fun k hk=>.inl (by omega)))
   have hsb:=hsa.fr hfb (fun g o m c e hx=>by have:=hna g o m c e;omega)
   have hcv:=iK _ _ _ hsb
   rw [(aa H9).2] at hcv
   have HST:=ae hst
   have HB17b:=ae hBb
   have HQ17:=ae hQa
   clear hst hBb hfb hfa hQa HB16 HQ15 HF16 HO16 hsa hna hsb hlz
   have r9:=(aa HB17b).cell 9 _ rfl
   have z9:=(aa HB17b).fD 9
   have l9:=ab r9
   go_upto_region 17 with (first|((with_reducible refine aw ?_);refine ag rfl 120 (.tmp 1) (.tmp 97) rfl _ _ rfl rfl (aa HST) ?_))
   clear HST
   have HB18:Hid (BX w _ 30 Ra17 lp [.int .u32 (s1.2.1:Nat),.int .u32 (s1.2.2:Nat),.int .u32 (s2.2:Nat),.int .u8 (op:Nat),.int .u32 (s4.2:Nat),.int .u32 (ve:Nat),.int .u32 (s6.2:Nat),.int .u32 (s7.2:Nat),.slice fo (q.r8 fi).2.1.length fc,.string rs]):=ae ((aa HB17b).bU 9 (.string rs))
   have HF18:=ae ((aa HF17).bU 9 (.string rs))
   clear r9 z9 l9
   clear HB17b HF17
   clear hcv
   have hfk:∀ so,(if so=true then 4 else 0)=(if u5=false∧0<sn then 4 else 0)→∀ w',Calls Tryz.prog 99 #[.agg Ra17.toArray,.bool so,.int .i64 (4:Nat)] w' fun e w''=>∃ R',e = .returned (.agg R'.toArray)∧QS (q.ts fi) xo len xc all R'∧Fr (fun _=>False) w' w'':=fun so h w'=>by
    have hb:=fF (w':=w') (aa HA).hl (aa HQ17) so 4 _ (by decide) (by decide) h
    have h9:=(aa HG2).2.2.2.2.2.2.2.2 fi
    rw [(aa H9).1,← (aa HSN)] at h9
    rw [h9] at hb
    exact hb
   have HK:=ae hfk
   have hev:(q.gO fi).aF (.slice fo (q.r8 fi).2.1.length fc)=([.int .u32 (s1.2.1:Nat),.int .u32 (s1.2.2:Nat),.int .u32 (s2.2:Nat),.int .u8 (op:Nat),.int .u32 (s4.2:Nat),.int .u32 (ve:Nat),.int .u32 (s6.2:Nat),.int .u32 (s7.2:Nat),.slice fo (q.r8 fi).2.1.length fc,.string rs]:List Value).toArray:=by
    simp only [Q.gO,ew.aF]
    rw [(aa HE).1,(aa HE).2.1,(aa HE).2.2.1,(aa HE).2.2.2.2,(aa HE2).1,(aa HE2).2.1,(aa HG2).2.2.1,(aa HE2).2.2.1,(aa HE2).2.2.2,(aa H9).1,(aa H9).2]
   have hok:q.th fi:=by
    refine ⟨?_,?_⟩
    ·rw [(aa HE2).2.2.2];exact (aa HI).1
    ·rw [(aa HE2).2.2.2];exact (aa HI).2
   have HV:=ae (And.intro hev hok)
   clear hfk hev hok
   have hBd:=(aa HB18).aE (Fr.refl (fun _=>False) _).drew
   have hFd:=(aa HF18).call (Fr.refl (fun _=>False) _).drew
   have hOd:=((aa HO17).cO ((Fr.refl (fun k=>k=w.heap.size+1+1+1) _).setCell (p:=⟨w.heap.size+1+1+1,9,none⟩) (.inl rfl) (.string rs)) (fun k hk=>.inl (by omega))).cO (Fr.refl (fun _=>False) _).drew (fun _ h=>h.elim)
   have HSd:=ae (fun W' (hf:Fr (fun k=>k=w.heap.size+1∨k=w.heap.size+1+1) _ W')=>show (W'.rangeAt w.heap.size 0 Ra17∧W'.rangeAt (w.heap.size+1+1+1) 0 [.int .u32 (s1.2.1:Nat),.int .u32 (s1.2.2:Nat),.int .u32 (s2.2:Nat),.int .u8 (op:Nat),.int .u32 (s4.2:Nat),.int .u32 (ve:Nat),.int .u32 (s6.2:Nat),.int .u32 (s7.2:Nat),.slice fo (q.r8 fi).2.1.length fc,.string rs]∧W'.cell? ⟨wu.heap.size,4,none⟩=some (.bool u5)) from ⟨(hBd.sK hf).1,(hBd.sK hf).2,af ((aa HUb) _ (hFd.trans hf (fun k _ e=>by show k<w.heap.size+4;omega))) 4 _ rfl⟩)
   have HBd:=ae hBd
   have HOd:=ae hOd
   clear hBd hFd hOd
   cases u5
   ·refine wp_region_held_drew (S:=(fun W:World=>W.rangeAt w.heap.size 0 Ra17∧W.rangeAt (w.heap.size+1+1+1) 0 [.int .u32 (s1.2.1:Nat),.int .u32 (s1.2.2:Nat),.int .u32 (s2.2:Nat),.int .u8 (op:Nat),.int .u32 (s4.2:Nat),.int .u32 (ve:Nat),.int .u32 (s6.2:Nat),.int .u32 (s7.2:Nat),.slice fo (q.r8 fi).2.1.length fc,.string rs]∧W.cell? ⟨wu.heap.size,4,none⟩=some (.bool false))) (by kernel_rfl) ((aa HSd) _ (Fr.refl _ _)) (fun hHeld=>?_)
    refine cd (i:=0) rfl (yieldsIf_load_mid rfl 120 (.tmp 1) rfl w.heap.size 0 rfl _ _ (fun w h=>h.1) Tryz.underlying120 rfl (by rw [(aa HBd).n];exact Tryz.al)) hHeld ?_
    (try simp only [Act.put,aY])
    refine kQ (i:=1) rfl hHeld ?_
    (try simp only [Act.put,aY])
    refine kQ (i:=2) rfl hHeld ?_
    (try simp only [Act.put,aY])
    refine kQ (i:=3) rfl hHeld ?_
    (try simp only [Act.put,aY])
    refine kQ (i:=4) rfl hHeld ?_
    (try simp only [Act.put,aY])
    refine kQ (i:=5) rfl hHeld ?_
    (try simp only [Act.put,aY])
    refine kQ (i:=6) rfl hHeld ?_
    (try simp only [Act.put,aY])
    refine kQ (i:=7) rfl hHeld ?_
    (try simp only [Act.put,aY])
    refine kQ (i:=8) rfl hHeld ?_
    (try simp only [Act.put,aY])
    refine cd (i:=10) rfl (yieldsIf_load_mid rfl 30 (.tmp 4) rfl (w.heap.size+1+1+1) 0 rfl _ _ (fun w h=>h.2.1) Tryz.underlying30 rfl Tryz.gg) hHeld ?_
    (try simp only [Act.put,aY])
    refine wpAnyH_ready (rs:=[9]) (by kernel_rfl) (by simp) (AllReadyH.cons rfl (fun K hK=>?_) AllReadyH.nil)
    go_simp
    refine ((aa HK) _ (by by_cases hz:0<sn <;> simp [hz]) _).mono ?_
    rintro e wg ⟨Rg,rfl,hQg,hfg⟩
    try dsimp only
    (try clear hHeld)
    refine hK.out _ _ ((aa HSd) _ (hfg.mono (fun _ _ h=>h.elim))) (fun hHeld=>?_)
    clear hK K
    (try simp only [Act.put,aY])
    obtain ⟨W1,W2,s1',s2',f1,f2,hE1⟩:=((aa HBd).aE hfg).jQ hQg rfl Tryz.gg (by simp [Value.oneCell'])
    have HS1:=ae s1'
    have HS2:=ae s2'
    have HF1:=ae ((hfg.mono (T:=fun k=>k=w.heap.size+1∨k=w.heap.size+1+1) (fun _ _ h=>h.elim)).trans f1 (fun _ _ h=>h))
    have HF2:=ae ((hfg.mono (T:=fun k=>k=w.heap.size+1∨k=w.heap.size+1+1) (fun _ _ h=>h.elim)).trans f2 (fun _ _ h=>h))
    have HE1:=ae hE1
    have HQg:=ae hQg
    clear s1' s2' f1 f2 hE1 hQg hfg
    refine wpAnyH_ready (rs:=[11]) (by kernel_rfl) (by simp) (AllReadyH.cons rfl (fun K hK=>?_) AllReadyH.nil)
    refine aP rfl 120 (.tmp 2) (.tmp 111) rfl _ _ (by simp [Act.eval]) (by simp [Act.eval]) (aa HS1) ?_
    (try clear hHeld)
    refine hK.out _ _ ((aa HSd) _ (aa HF1)) (fun hHeld=>?_)
    clear hK K
    (try simp only [Act.put,aY])
    refine wpAnyH_ready (rs:=[12]) (by kernel_rfl) (by simp) (AllReadyH.cons rfl (fun K hK=>?_) AllReadyH.nil)
    refine aP rfl 30 (.tmp 3) (.tmp 112) rfl _ _ (by simp [Act.eval]) (by simp [Act.eval]) (aa HS2) ?_
    (try clear hHeld)
    refine hK.out _ _ ((aa HSd) _ (aa HF2)) (fun hHeld=>?_)
    clear hK K
    (try simp only [Act.put,aY])
    refine wpAnyH_done (by kernel_rfl) ?_ _
    clear hHeld
    go_wp2_with fail
    exact cT (aa HE1) rfl _ _ (by simp) (by simp) Tryz.underlying120 rfl (by rw [(aa HQg).len];exact Tryz.al) Tryz.underlying30 rfl Tryz.gg ⟨Rg,.slice fo (q.r8 fi).2.1.length fc,fi,by rw [(aa HV).1],(aa HV).2,aa HQg,((aa HOd).cO (aa HF2) (fun k hk=>.inl (by omega))).base (by omega),(aa HE1).fr⟩
   ·refine wp_region_held_drew (S:=(fun W:World=>W.rangeAt w.heap.size 0 Ra17∧W.rangeAt (w.heap.size+1+1+1) 0 [.int .u32 (s1.2.1:Nat),.int .u32 (s1.2.2:Nat),.int .u32 (s2.2:Nat),.int .u8 (op:Nat),.int .u32 (s4.2:Nat),.int .u32 (ve:Nat),.int .u32 (s6.2:Nat),.int .u32 (s7.2:Nat),.slice fo (q.r8 fi).2.1.length fc,.string rs]∧W.cell? ⟨wu.heap.size,4,none⟩=some (.bool true))) (by kernel_rfl) ((aa HSd) _ (Fr.refl _ _)) (fun hHeld=>?_)
    refine cd (i:=0) rfl (yieldsIf_load_mid rfl 120 (.tmp 1) rfl w.heap.size 0 rfl _ _ (fun w h=>h.1) Tryz.underlying120 rfl (by rw [(aa HBd).n];exact Tryz.al)) hHeld ?_
    (try simp only [Act.put,aY])
    refine kQ (i:=1) rfl hHeld ?_
    (try simp only [Act.put,aY])
    refine kQ (i:=2) rfl hHeld ?_
    (try simp only [Act.put,aY])
    refine kQ (i:=3) rfl hHeld ?_
    (try simp only [Act.put,aY])
    refine kQ (i:=4) rfl hHeld ?_
    (try simp only [Act.put,aY])
    refine cd (i:=5) rfl (Or.inr ⟨rfl,rfl⟩) hHeld ?_
    (try simp only [Act.put,aY])
    refine cd (i:=6) rfl (Or.inr ⟨rfl,rfl⟩) hHeld ?_
    (try simp only [Act.put,aY])
    refine cd (i:=7) rfl (Or.inr ⟨rfl,rfl⟩) hHeld ?_
    (try simp only [Act.put,aY])
    refine kQ (i:=8) rfl hHeld ?_
    (try simp only [Act.put,aY])
    refine cd (i:=10) rfl (yieldsIf_load_mid rfl 30 (.tmp 4) rfl (w.heap.size+1+1+1) 0 rfl _ _ (fun w h=>h.2.1) Tryz.underlying30 rfl Tryz.gg) hHeld ?_
    (try simp only [Act.put,aY])
    refine wpAnyH_ready (rs:=[9]) (by kernel_rfl) (by simp) (AllReadyH.cons rfl (fun K hK=>?_) AllReadyH.nil)
    go_simp
    refine ((aa HK) _ (by simp) _).mono ?_
    rintro e wg ⟨Rg,rfl,hQg,hfg⟩
    try dsimp only
    (try clear hHeld)
    refine hK.out _ _ ((aa HSd) _ (hfg.mono (fun _ _ h=>h.elim))) (fun hHeld=>?_)
    clear hK K
    (try simp only [Act.put,aY])
    obtain ⟨W1,W2,s1',s2',f1,f2,hE1⟩:=((aa HBd).aE hfg).jQ hQg rfl Tryz.gg (by simp [Value.oneCell'])
    have HS1:=ae s1'
    have HS2:=ae s2'
    have HF1:=ae ((hfg.mono (T:=fun k=>k=w.heap.size+1∨k=w.heap.size+1+1) (fun _ _ h=>h.elim)).trans f1 (fun _ _ h=>h))
    have HF2:=ae ((hfg.mono (T:=fun k=>k=w.heap.size+1∨k=w.heap.size+1+1) (fun _ _ h=>h.elim)).trans f2 (fun _ _ h=>h))
    have HE1:=ae hE1
    have HQg:=ae hQg
    clear s1' s2' f1 f2 hE1 hQg hfg
    refine wpAnyH_ready (rs:=[11]) (by kernel_rfl) (by simp) (AllReadyH.cons rfl (fun K hK=>?_) AllReadyH.nil)
    refine aP rfl 120 (.tmp 2) (.tmp 111) rfl _ _ (by simp [Act.eval]) (by simp [Act.eval]) (aa HS1) ?_
    (try clear hHeld)
    refine hK.out _ _ ((aa HSd) _ (aa HF1)) (fun hHeld=>?_)
    clear hK K
    (try simp only [Act.put,aY])
    refine wpAnyH_ready (rs:=[12]) (by kernel_rfl) (by simp) (AllReadyH.cons rfl (fun K hK=>?_) AllReadyH.nil)
    refine aP rfl 30 (.tmp 3) (.tmp 112) rfl _ _ (by simp [Act.eval]) (by simp [Act.eval]) (aa HS2) ?_
    (try clear hHeld)
    refine hK.out _ _ ((aa HSd) _ (aa HF2)) (fun hHeld=>?_)
    clear hK K
    (try simp only [Act.put,aY])
    refine wpAnyH_done (by kernel_rfl) ?_ _
    clear hHeld
    go_wp2_with fail
    exact cT (aa HE1) rfl _ _ (by simp) (by simp) Tryz.underlying120 rfl (by rw [(aa HQg).len];exact Tryz.al) Tryz.underlying30 rfl Tryz.gg ⟨Rg,.slice fo (q.r8 fi).2.1.length fc,fi,by rw [(aa HV).1],(aa HV).2,aa HQg,((aa HOd).cO (aa HF2) (fun k hk=>.inl (by omega))).base (by omega),(aa HE1).fr⟩
theorem Tryz.jU:(Tryz.prog.info? 35).map (·.size)=some 13:=by kernel_rfl
def Ad:List Value:=[.int .u32 0,.int .u32 0,.int .u32 0,.int .u32 0,.int .u8 0,.int .u32 0,.int .u32 0,.int .u32 0,.int .u32 0,.slice none 0 0,.string ⟨#[]⟩,.int .u8 0,.slice none 0 0]
def Q.v2 (q:Q):Q × Nat:=q.cf jg 4
def Q.v4 (q:Q) (i:Nat):Q × Nat:=(q.v2.1.ts i).eX
def Q.v5 (q:Q) (i:Nat):Q × List Nat:=(q.v4 i).1.many eE 1 32
def Q.tc (q:Q) (i:Nat):gS:=⟨q.v2.2,q.v2.1.gO i,(q.v4 i).2,(q.v5 i).2⟩
theorem jn {w:World} {xo:Option Addr} {len xc:Nat} {all:List Nat} {R:List Value} {q:Q} (A:nL w xo len xc all) (h:QS q xo len xc all R) :
  Calls Tryz.prog 61 #[.agg R.toArray] w fun e w'=>∃ R' v x i,e = .returned (.tuple #[.agg R'.toArray,.agg ((q.tc i).aF v x)])∧q.v2.1.th i∧QS (q.v5 i).1 xo len xc all R'∧dI w' w.heap.size v (q.v2.1.r8 i).2.1 (fun _=>False)∧Src w' x (q.v5 i).2∧(∀ g o m c,x = .slice (some ⟨g,o,none⟩) m c→w.heap.size≤g)∧Fr (fun _=>False) w w':=by
 have HA:=ae A
 have HQ:=ae h
 obtain ⟨s2,e2⟩:∃ x,q.v2=x:=⟨_,rfl⟩
 have hpl:s2.2<4294967296:=by rw [← e2];exact Q.go_lt _ 4 0
 have g2:q.cf jg 4=s2:=e2
 have HE:=ae (And.intro e2 g2)
 clear g2 e2
 obtain ⟨ha,ho,last,rfl,hla⟩:=h
 rw [bT]
 have HB0:=ae (BX.start w 35 (q.rv xo len xc last).toList Ad rfl)
 unfold Q.rv at HB0 ⊢
 clear ha ho hla A
 go_enter Tryz.func61,Tryz.ntmps61
 go_wp2_with fail
 refine (dZ (aa HA) (mv _ _ _ _ _) (aa HQ) jg 4 (.inr (.inl rfl))).mono ?_
 rintro e wa1 ⟨Ra1,rfl,hQa,hfa⟩
 rw [(aa HE).2] at hQa ⊢
 obtain ⟨wb1,hst,hBb,hfb⟩:=((aa HB0).aE hfa).bp hQa
 have hw:=gf hpl
 have HST:=ae hst
 have HB1b:=ae hBb
 have HQ1:=ae hQa
 clear hst hBb hfb hfa hQa HB0 HQ   
 have r0:=(aa HB1b).cell 0 _ rfl
 have z0:=(aa HB1b).fD 0
 have l0:=ab r0
 go_upto_region 4 with (first|((with_reducible refine aw ?_);refine ag rfl 120 (.tmp 1) (.tmp 9) rfl _ _ rfl rfl (aa HST) ?_))
 clear HST
 have HB2:Hid (BX w _ 35 Ra1 Ad [.int .u32 (s2.2:Nat),.int .u32 0,.int .u32 0,.int .u32 0,.int .u8 0,.int .u32 0,.int .u32 0,.int .u32 0,.int .u32 0,.slice none 0 0,.string ⟨#[]⟩,.int .u8 0,.slice none 0 0]):=ae ((aa HB1b).bU 0 (.int .u32 (s2.2:Nat)))
 clear r0 z0 l0
 clear HB1b 
 clear hw
 go_wp2_with (first|((with_reducible refine aA 15 ?_);refine wpList_load_mid rfl 120 (.tmp 1) rfl w.heap.size 0 rfl _ _ (af (aa HB2).b0) Tryz.underlying120 rfl (by rw [(aa HB2).n];exact Tryz.al) ?_))
 refine (eZ ((aa HA).aE (aa HB2).fr) (aa HQ1)).mono ?_
 rintro e wa3 ⟨Ra3,fv,fi,rfl,hok,hQa,hOa,hfa⟩
 obtain ⟨fo,fc,rfl⟩:=dc hOa.row
 obtain ⟨rq,hrq⟩:∃ x,s2.1.gO fi=x:=⟨_,rfl⟩
 rw [hrq]
 obtain ⟨cl,nu,ac,op,re,ve,wa,ow,fs,rs⟩:=rq
 unfold ew.aF
 dsimp only
 have hlo:=(aa HB2).lt
 have hOa:=hOa.base (base':=w.heap.size+4) (by omega)
 obtain ⟨wb3,hst,hBb,hfb⟩:=((aa HB2).aE hfa).bp hQa
 have HO1:=ae (hOa.cO hfb (fun k hk=>.inl (by omega)))
 have HI:=ae (And.intro hok hrq)
 have HST:=ae hst
 have HB3b:=ae hBb
 have HQ3:=ae hQa
 clear hst hBb hfb hfa hQa HB2 HQ1   hOa hlo hok hrq
 have r1:=(aa HB3b).cell 1 _ rfl
 have z1:=(aa HB3b).fD 1
 have l1:=ab r1
 have r2:=(aa HB3b).cell 2 _ rfl
 have z2:=(aa HB3b).fD 2
 have l2:=ab r2
 have r3:=(aa HB3b).cell 3 _ rfl
 have z3:=(aa HB3b).fD 3
 have l3:=ab r3
 have r4:=(aa HB3b).cell 4 _ rfl
 have z4:=(aa HB3b).fD 4
 have l4:=ab r4
 have r5:=(aa HB3b).cell 5 _ rfl
 have z5:=(aa HB3b).fD 5
 have l5:=ab r5
 have r6:=(aa HB3b).cell 6 _ rfl
 have z6:=(aa HB3b).fD 6
 have l6:=ab r6
 have r7:=(aa HB3b).cell 7 _ rfl
 have z7:=(aa HB3b).fD 7
 have l7:=ab r7
 have r8:=(aa HB3b).cell 8 _ rfl
 have z8:=(aa HB3b).fD 8
 have l8:=ab r8
 have r9:=(aa HB3b).cell 9 _ rfl
 have z9:=(aa HB3b).fD 9
 have l9:=ab r9
 have r10:=(aa HB3b).cell 10 _ rfl
 have z10:=(aa HB3b).fD 10
 have l10:=ab r10
 go_upto_region 5 with (first|((with_reducible refine aw ?_);refine ag rfl 120 (.tmp 1) (.tmp 17) rfl _ _ rfl rfl (aa HST) ?_))
 clear HST
 have HB4:Hid (BX w _ 35 Ra3 Ad [.int .u32 (s2.2:Nat),.int .u32 (cl:Nat),.int .u32 (nu:Nat),.int .u32 (ac:Nat),.int .u8 (op:Nat),.int .u32 (re:Nat),.int .u32 (ve:Nat),.int .u32 (wa:Nat),.int .u32 (ow:Nat),.slice fo (s2.1.r8 fi).2.1.length fc,.string rs,.int .u8 0,.slice none 0 0]):=ae (((((((((((aa HB3b).bU 1 (.int .u32 (cl:Nat))).bU 2 (.int .u32 (nu:Nat))).bU 3 (.int .u32 (ac:Nat))).bU 4 (.int .u8 (op:Nat))).bU 5 (.int .u32 (re:Nat))).bU 6 (.int .u32 (ve:Nat))).bU 7 (.int .u32 (wa:Nat))).bU 8 (.int .u32 (ow:Nat))).bU 9 (.slice fo (s2.1.r8 fi).2.1.length fc)).bU 10 (.string rs))
 have HO4:=ae ((aa HO1).cO (((((((((((Fr.refl (fun k=>k=w.heap.size+1+1+1) _).setCell (p:=⟨w.heap.size+1+1+1,1,none⟩) (.inl rfl) (.int .u32 (cl:Nat))).setCell (p:=⟨w.heap.size+1+1+1,2,none⟩) (.inl rfl) (.int .u32 (nu:Nat))).setCell (p:=⟨w.heap.size+1+1+1,3,none⟩) (.inl rfl) (.int .u32 (ac:Nat))).setCell (p:=⟨w.heap.size+1+1+1,4,none⟩) (.inl rfl) (.int .u8 (op:Nat))).setCell (p:=⟨w.heap.size+1+1+1,5,none⟩) (.inl rfl) (.int .u32 (re:Nat))).setCell (p:=⟨w.heap.size+1+1+1,6,none⟩) (.inl rfl) (.int .u32 (ve:Nat))).setCell (p:=⟨w.heap.size+1+1+1,7,none⟩) (.inl rfl) (.int .u32 (wa:Nat))).setCell (p:=⟨w.heap.size+1+1+1,8,none⟩) (.inl rfl) (.int .u32 (ow:Nat))).setCell (p:=⟨w.heap.size+1+1+1,9,none⟩) (.inl rfl) (.slice fo (s2.1.r8 fi).2.1.length fc)).setCell (p:=⟨w.heap.size+1+1+1,10,none⟩) (.inl rfl) (.string rs)) (fun k hk=>.inl (by omega)))
 clear r1 z1 l1 r2 z2 l2 r3 z3 l3 r4 z4 l4 r5 z5 l5 r6 z6 l6 r7 z7 l7 r8 z8 l8 r9 z9 l9 r10 z10 l10
 clear HB3b HO1
 obtain ⟨s4,e4⟩:∃ x,q.v4 fi=x:=⟨_,rfl⟩
 have g4:(s2.1.ts fi).eX=s4:=by rw [← (aa HE).1];exact e4
 obtain ⟨s5,e5⟩:∃ x,q.v5 fi=x:=⟨_,rfl⟩
 have g5:s4.1.many eE 1 32=s5:=by rw [← e4];exact e5
 have H4:=ae (And.intro e4 (And.intro g4 (And.intro e5 g5)))
 clear e4 g4 e5 g5
 go_wp2_with (first|((with_reducible refine aA 21 ?_);refine wpList_load_mid rfl 120 (.tmp 1) rfl w.heap.size 0 rfl _ _ (af (aa HB4).b0) Tryz.underlying120 rfl (by rw [(aa HB4).n];exact Tryz.al) ?_))
 refine (mS (aa HA) (aa HB4).fr (aa HQ3)).mono ?_
 rintro e wa5 ⟨Ra5,rfl,hQa,hfa⟩
 rw [(aa H4).2.1] at hQa ⊢
 obtain ⟨wb5,hst,hBb,hfb⟩:=((aa HB4).aE hfa).bp hQa
 have HO5:=ae (((aa HO4).cO hfa (fun _ h=>h.elim)).cO hfb (fun k hk=>.inl (by omega)))
 have HST:=ae hst
 have HB5b:=ae hBb
 have HQ5:=ae hQa
 clear hst hBb hfb hfa hQa HB4 HQ3  HO4 
 have r11:=(aa HB5b).cell 11 _ rfl
 have z11:=(aa HB5b).fD 11
 have l11:=ab r11
 go_upto_region 6 with (first|((with_reducible refine aw ?_);refine ag rfl 120 (.tmp 1) (.tmp 23) rfl _ _ rfl rfl (aa HST) ?_))
 clear HST
 have HB6:Hid (BX w _ 35 Ra5 Ad [.int .u32 (s2.2:Nat),.int .u32 (cl:Nat),.int .u32 (nu:Nat),.int .u32 (ac:Nat),.int .u8 (op:Nat),.int .u32 (re:Nat),.int .u32 (ve:Nat),.int .u32 (wa:Nat),.int .u32 (ow:Nat),.slice fo (s2.1.r8 fi).2.1.length fc,.string rs,.int .u8 (s4.2:Nat),.slice none 0 0]):=ae ((aa HB5b).bU 11 (.int .u8 (s4.2:Nat)))
 clear r11 z11 l11
 clear HB5b 
 have HO7:=ae ((aa HO5).cO ((Fr.refl (fun k=>k=w.heap.size+1+1+1) _).setCell (p:=⟨w.heap.size+1+1+1,11,none⟩) (.inl rfl) (.int .u8 (s4.2:Nat))) (fun k hk=>.inl (by omega)))
 clear HO5
 go_wp2_with (first|((with_reducible refine aA 27 ?_);refine wpList_load_mid rfl 120 (.tmp 1) rfl w.heap.size 0 rfl _ _ (af (aa HB6).b0) Tryz.underlying120 rfl (by rw [(aa HB6).n];exact Tryz.al) ?_))
 refine (km (aa HA) (aa HB6).fr (aa HQ5) eE 1 32 (by decide)).mono ?_
 rintro e wa8 ⟨Ra8,sx,sn,sc,rfl,hQa,hsa,hna,hfa⟩
 rw [(aa H4).2.2.2] at hQa hsa
 have hlz:=(aa HB6).lt
 obtain ⟨wb8,hst,hBb,hfb⟩:=((aa HB6).aE hfa).bp hQa
 have HO8:=ae (((aa HO7).cO hfa (fun _ h=>h.elim)).cO hfb (fun k hk=>.inl (by omega)))
 have hsb:=hsa.fr hfb (fun g o m c e hx=>by have:=hna g o m c e;omega)
 have hnb:∀ g o m c,Value.slice sx sn sc = .slice (some ⟨g,o,none⟩) m c→w.heap.size+4≤g:=fun g o m c e=>by have:=hna g o m c e;omega
 have HS:=ae (And.intro hsb hnb)
 have HST:=ae hst
 have HB8b:=ae hBb
 have HQ8:=ae hQa
 clear hst hBb hfb hfa hQa HB6 HQ5  HO7 hsa hna hsb hnb hlz
 have r12:=(aa HB8b).cell 12 _ rfl
 have z12:=(aa HB8b).fD 12
 have l12:=ab r12
 go_upto_region 7 with (first|((with_reducible refine aw ?_);refine ag rfl 120 (.tmp 1) (.tmp 29) rfl _ _ rfl rfl (aa HST) ?_))
 clear HST
 have HB9:Hid (BX w _ 35 Ra8 Ad [.int .u32 (s2.2:Nat),.int .u32 (cl:Nat),.int .u32 (nu:Nat),.int .u32 (ac:Nat),.int .u8 (op:Nat),.int .u32 (re:Nat),.int .u32 (ve:Nat),.int .u32 (wa:Nat),.int .u32 (ow:Nat),.slice fo (s2.1.r8 fi).2.1.length fc,.string rs,.int .u8 (s4.2:Nat),.slice sx sn sc]):=ae ((aa HB8b).bU 12 (.slice sx sn sc))
 clear r12 z12 l12
 clear HB8b 
 have hev:(q.tc fi).aF (.slice fo (s2.1.r8 fi).2.1.length fc) (.slice sx sn sc)=([.int .u32 (s2.2:Nat),.int .u32 (cl:Nat),.int .u32 (nu:Nat),.int .u32 (ac:Nat),.int .u8 (op:Nat),.int .u32 (re:Nat),.int .u32 (ve:Nat),.int .u32 (wa:Nat),.int .u32 (ow:Nat),.slice fo (s2.1.r8 fi).2.1.length fc,.string rs,.int .u8 (s4.2:Nat),.slice sx sn sc]:List Value).toArray:=by
  have e1:=(aa HI).2
  simp only [Q.tc,gS.aF]
  rw [(aa HE).1,(aa H4).1]
  rw [e1]
 have HV:=ae hev
 clear hev
 have hBd:=(aa HB9).aE (Fr.refl (fun _=>False) _).drew
 have hOd:=((aa HO8).cO ((Fr.refl (fun k=>k=w.heap.size+1+1+1) _).setCell (p:=⟨w.heap.size+1+1+1,12,none⟩) (.inl rfl) (.slice sx sn sc)) (fun k hk=>.inl (by omega))).cO (Fr.refl (fun _=>False) _).drew (fun _ h=>h.elim)
 have hSd:=((aa HS).1.fr ((Fr.refl (fun k=>k=w.heap.size+1+1+1) _).setCell (p:=⟨w.heap.size+1+1+1,12,none⟩) (.inl rfl) (.slice sx sn sc)) (fun g o m c e hx=>by have:=(aa HS).2 g o m c e;omega)).fr (Fr.refl (fun _=>False) _).drew (fun _ _ _ _ _ h=>h)
 obtain ⟨W1,W2,t1,t2,f1,f2,hE1⟩:=hBd.jQ (aa HQ8) rfl Tryz.jU (by simp [Value.oneCell'])
 have HSd:=ae (fun W' hf=>hBd.sK (W':=W') hf)
 have HS1:=ae t1
 have HS2:=ae t2
 have HF1:=ae f1
 have HF2:=ae f2
 have HE1:=ae hE1
 have HOd:=ae hOd
 have HSs:=ae hSd
 clear t1 t2 f1 f2 hE1 hBd hOd hSd
 refine wp_region_held_drew (S:=(fun W:World=>W.rangeAt w.heap.size 0 Ra8∧W.rangeAt (w.heap.size+1+1+1) 0 [.int .u32 (s2.2:Nat),.int .u32 (cl:Nat),.int .u32 (nu:Nat),.int .u32 (ac:Nat),.int .u8 (op:Nat),.int .u32 (re:Nat),.int .u32 (ve:Nat),.int .u32 (wa:Nat),.int .u32 (ow:Nat),.slice fo (s2.1.r8 fi).2.1.length fc,.string rs,.int .u8 (s4.2:Nat),.slice sx sn sc])) (by kernel_rfl) ((aa HSd) _ (Fr.refl _ _)) (fun hHeld=>?_)
 refine cd (i:=0) rfl (yieldsIf_load_mid rfl 120 (.tmp 1) rfl w.heap.size 0 rfl _ _ (fun w h=>h.1) Tryz.underlying120 rfl (by rw [(aa HB9).n];exact Tryz.al)) hHeld ?_
 (try simp only [Act.put,aY])
 refine cd (i:=1) rfl (yieldsIf_load_mid rfl 35 (.tmp 4) rfl (w.heap.size+1+1+1) 0 rfl _ _ (fun w h=>h.2) Tryz.underlying35 rfl Tryz.jU) hHeld ?_
 (try simp only [Act.put,aY])
 refine wpAnyH_ready (rs:=[2]) (by kernel_rfl) (by simp) (AllReadyH.cons rfl (fun K hK=>?_) AllReadyH.nil)
 refine aP rfl 120 (.tmp 2) (.tmp 32) rfl _ _ (by simp [Act.eval]) (by simp [Act.eval]) (aa HS1) ?_
 (try clear hHeld)
 refine hK.out _ _ ((aa HSd) _ (aa HF1)) (fun hHeld=>?_)
 clear hK K
 (try simp only [Act.put,aY])
 refine wpAnyH_ready (rs:=[3]) (by kernel_rfl) (by simp) (AllReadyH.cons rfl (fun K hK=>?_) AllReadyH.nil)
 refine aP rfl 35 (.tmp 3) (.tmp 33) rfl _ _ (by simp [Act.eval]) (by simp [Act.eval]) (aa HS2) ?_
 (try clear hHeld)
 refine hK.out _ _ ((aa HSd) _ (aa HF2)) (fun hHeld=>?_)
 clear hK K
 (try simp only [Act.put,aY])
 refine wpAnyH_done (by kernel_rfl) ?_ _
 clear hHeld
 go_wp2_with fail
 exact cT (aa HE1) rfl _ _ (by simp) (by simp) Tryz.underlying120 rfl (by rw [(aa HB9).n];exact Tryz.al) Tryz.underlying35 rfl Tryz.jU ⟨Ra8,.slice fo (s2.1.r8 fi).2.1.length fc,.slice sx sn sc,fi,by rw [aa HV],by rw [(aa HE).1];exact (aa HI).1,by rw [(aa H4).2.2.1];exact aa HQ8,by rw [(aa HE).1];exact ((aa HOd).cO (aa HF2) (fun k hk=>.inl (by omega))).base (by omega),by rw [(aa H4).2.2.1];exact (aa HSs).fr (aa HF2) (fun g o m c e hx=>by have:=(aa HS).2 g o m c e;omega),fun g o m c e=>by have:=(aa HS).2 g o m c e;omega,(aa HE1).fr⟩
structure QL (a b:Q):Prop where
 all:a.all=b.all
 f:a.f=b.f
 eq:a.f=none→a=b
theorem QL.refl (a:Q):QL a a:=⟨rfl,rfl,fun _=>rfl⟩
theorem Q.go_given {q:Q} (hf:q.f≠none) (k m:Int) (hk:k≠10):q.go k m=(q,0,[]):=by
 unfold Q.go Q.step
 rw [if_neg hk,if_pos hf]
theorem QL.go {a b:Q} (h:QL a b) (nm:ByteArray) (k m:Int) (hk:k≠10):QL ((a.ah nm).go k m).1 ((b.named nm).go k m).1∧((a.ah nm).go k m).2=((b.named nm).go k m).2:=by
 by_cases hf:a.f=none
 ·obtain rfl:=h.eq hf
  have e:a.ah nm=a.named nm:=by unfold Q.ah;rw [if_pos hf]
  rw [e]
  exact ⟨QL.refl _,rfl⟩
 ·have e:a.ah nm=a:=by unfold Q.ah;rw [if_neg hf]
  have hb:(b.named nm).f≠none:=by show b.f≠none;rw [← h.f];exact hf
  rw [e,Q.go_given hf k m hk,Q.go_given hb k m hk]
  exact ⟨⟨h.all,h.f,fun hx=>absurd hx hf⟩,rfl⟩
theorem QL.ai {a b:Q} (h:QL a b) {n m:Nat} (hnm:a.f=none→n=m):QL (a.ai n) (b.ai m):=by
 by_cases hf:a.f=none
 ·obtain rfl:=h.eq hf
  rw [hnm hf]
  exact QL.refl _
 ·have hb:b.f≠none:=by rw [← h.f];exact hf
  unfold Q.ai
  rw [if_pos (.inr hf),if_pos (.inr hb)]
  exact ⟨h.all,h.f,fun hx=>absurd hx hf⟩
theorem Q.bh (q:Q):q.ai 0=q:=by unfold Q.ai;rw [if_pos (.inl rfl)]
theorem QL.u8 {a b:Q} (h:QL a b) (nm:ByteArray) (rs:List (Nat→Nat)) (v n:Nat) (hn:n=fb rs (a.cf nm 1).2):∃ b',(CS.rd b).fR nm rs v=(.rd b',(a.cf nm 1).2)∧QL ((a.cf nm 1).1.ai n) b':=by
 obtain ⟨h1,h2⟩:=h.go nm 1 0 (by decide)
 have e:(a.cf nm 1).2=((b.named nm).go 1 0).2.1:=congrArg Prod.fst h2
 refine ⟨_,?_,h1.ai (m:=fb rs ((b.named nm).go 1 0).2.1) (fun _=>by rw [hn,e])⟩
 rw [e]
 rfl
theorem QL.u32 {a b:Q} (h:QL a b) (nm:ByteArray) (rs:List (Nat→Nat)) (v n:Nat) (hn:n=fb rs (a.cf nm 4).2):∃ b',(CS.rd b).ck nm rs v=(.rd b',(a.cf nm 4).2)∧QL ((a.cf nm 4).1.ai n) b':=by
 obtain ⟨h1,h2⟩:=h.go nm 4 0 (by decide)
 have e:(a.cf nm 4).2=((b.named nm).go 4 0).2.1:=congrArg Prod.fst h2
 refine ⟨_,?_,h1.ai (m:=fb rs ((b.named nm).go 4 0).2.1) (fun _=>by rw [hn,e])⟩
 rw [e]
 rfl
theorem QL.f32 {a b:Q} (h:QL a b) (nm:ByteArray) (rs:List (Nat→Nat)) (v n:Nat) (hn:n=fb rs (a.cf nm 5).2):∃ b',(CS.rd b).gZ nm rs v=(.rd b',(a.cf nm 5).2)∧QL ((a.cf nm 5).1.ai n) b':=by
 obtain ⟨h1,h2⟩:=h.go nm 5 0 (by decide)
 have e:(a.cf nm 5).2=((b.named nm).go 5 0).2.1:=congrArg Prod.fst h2
 refine ⟨_,?_,h1.ai (m:=fb rs ((b.named nm).go 5 0).2.1) (fun _=>by rw [hn,e])⟩
 rw [e]
 rfl
theorem QL.DX {a b:Q} (h:QL a b) (nm:ByteArray) (lo m:Int) (rs:List (List Nat→Nat)) (v:List Nat) (n:Nat) (hn:(a.many nm lo m).1.f=none→n=fb rs (a.many nm lo m).2) (hn2:((((a.many nm lo m).2.length:Nat):Int)<lo→fb rs (a.many nm lo m).2=4)):∃ b',(CS.rd b).fN nm m rs v=(.rd b',(a.many nm lo m).2)∧QL ((a.many nm lo m).1.ai n) b':=by
 obtain ⟨h1,h2⟩:=h.go nm 6 m (by decide)
 have e:(a.many nm lo m).2=((b.named nm).go 6 m).2.2:=congrArg Prod.snd h2
 refine ⟨((b.named nm).go 6 m).1.ai (fb rs ((b.named nm).go 6 m).2.2),?_,?_⟩
 ·rw [e]
  rfl
 ·rw [← e]
  by_cases hf:((a.ah nm).go 6 m).1.f=none
  ·by_cases hl:(((a.many nm lo m).2.length:Nat):Int)<lo
   ·have e4:(a.many nm lo m).1=((a.ah nm).go 6 m).1.ai 4:=by
     show ((a.ah nm).go 6 m).1.ai (if (((a.many nm lo m).2.length:Nat):Int)<lo then 4 else 0)=_
     rw [if_pos hl]
    have hne:(((a.ah nm).go 6 m).1.ai 4).f≠none:=by unfold Q.ai;rw [if_neg (by simp [hf])];simp
    have e5:(((a.ah nm).go 6 m).1.ai 4).ai n=((a.ah nm).go 6 m).1.ai 4:=by
     generalize hq:((a.ah nm).go 6 m).1.ai 4=r at hne ⊢
     unfold Q.ai
     rw [if_pos (.inr hne)]
    rw [e4,e5,hn2 hl]
    exact h1.ai (fun _=>rfl)
   ·have e4:(a.many nm lo m).1=((a.ah nm).go 6 m).1:=by
     show ((a.ah nm).go 6 m).1.ai (if (((a.many nm lo m).2.length:Nat):Int)<lo then 4 else 0)=_
     rw [if_neg hl,Q.bh]
    rw [e4] at hn ⊢
    exact h1.ai hn
  ·have e4:∀ k,((a.ah nm).go 6 m).1.ai k=((a.ah nm).go 6 m).1:=fun k=>by unfold Q.ai;rw [if_pos (.inr hf)]
   have e5:(a.many nm lo m).1=((a.ah nm).go 6 m).1:=e4 _
   rw [e5]
   exact h1.ai (fun hx=>absurd hx hf)
theorem QL.int {a b:Q} (h:QL a b) (nm:ByteArray) (m:Int) (rs:List (Int→Nat)) (v:Int) (n:Nat) (hn:n=fb rs ((a.cm nm m).2:Int)):∃ b',(CS.rd b).cL nm m rs v=(.rd b',((a.cm nm m).2:Int))∧QL ((a.cm nm m).1.ai n) b':=by
 obtain ⟨h1,h2⟩:=h.go nm 7 m (by decide)
 have e:(a.cm nm m).2=((b.named nm).go 7 m).2.1:=congrArg Prod.fst h2
 refine ⟨_,?_,h1.ai (m:=fb rs (((b.named nm).go 7 m).2.1:Int)) (fun _=>by rw [hn,e])⟩
 rw [e]
 rfl
theorem Q.go_max (q:Q) (m:Nat):(q.go 6 m).2.2.length≤m:=by
 unfold Q.go Q.step
 dsimp only
 split
 ·exact Nat.zero_le _
 split
 ·exact Nat.zero_le _
 split
 ·exact Nat.zero_le _
 split
 ·exact Nat.zero_le _
 split
 ·exact Nat.zero_le _
 split
 ·exact Nat.zero_le _
 rename_i h
 have h2:¬ (m:Int)<(q.num 4:Int):=fun hx=>h ⟨.inl rfl,hx⟩
 split
 ·exact Nat.zero_le _
 split
 ·exact Nat.zero_le _
 ·simp
  omega
theorem Q.dE (q:Q) (nm:ByteArray) (lo:Int) (m:Nat):(q.many nm lo m).2.length≤m:=(q.ah nm).go_max m
theorem QL.manyN {a b:Q} (h:QL a b) (nm:ByteArray) (lo m:Int) (n k:Nat) (hn:(a.many nm lo m).1.f=none→n=k) (hn2:(((a.many nm lo m).2.length:Nat):Int)<lo→k=4):QL ((a.many nm lo m).1.ai n) (((b.named nm).go 6 m).1.ai k):=by
 obtain ⟨b',e,hq⟩:=h.DX nm lo m [fun _=>k] [] n (fun hf=>by rw [hn hf];simp [fb]) (fun hl=>by simp [fb,hn2 hl])
 have e2:b'=((b.named nm).go 6 m).1.ai (fb [fun _=>k] ((b.named nm).go 6 m).2.2):=by
  have:=congrArg Prod.fst e
  injection this with this
  exact this.symm
 have e3:∀ l:List Nat,fb [fun _=>k] l=k:=fun l=>by simp only [fb];by_cases hk:k=0 <;> simp [hk]
 rw [e3] at e2
 rw [← e2]
 exact hq
theorem QL.str {a b:Q} (h:QL a b) (nm:ByteArray) (lo m:Int) (rs:List (ByteArray→Nat)) (v:ByteArray) (n:Nat) (hn:(a.many nm lo m).1.f=none→n=fb rs (strOf (a.many nm lo m).2)) (hn2:(((a.many nm lo m).2.length:Nat):Int)<lo→fb rs (strOf (a.many nm lo m).2)=4):∃ b',(CS.rd b).dW nm m rs v=(.rd b',strOf (a.many nm lo m).2)∧QL ((a.many nm lo m).1.ai n) b':=by
 obtain ⟨_,h2⟩:=h.go nm 6 m (by decide)
 have e:(a.many nm lo m).2=((b.named nm).go 6 m).2.2:=congrArg Prod.snd h2
 refine ⟨_,?_,h.manyN nm lo m n _ hn hn2⟩
 rw [e]
 rfl
theorem Q.qG {q:Q} {nm:ByteArray} {lo m:Int} (h:(q.many nm lo m).1.f=none):lo≤((q.many nm lo m).2.length:Nat):=by
 by_cases hl:(((q.many nm lo m).2.length:Nat):Int)<lo
 ·exfalso
  have e4:(q.many nm lo m).1=((q.ah nm).go 6 m).1.ai 4:=by
   show ((q.ah nm).go 6 m).1.ai (if (((q.many nm lo m).2.length:Nat):Int)<lo then 4 else 0)=_
   rw [if_pos hl]
  rw [e4] at h
  unfold Q.ai at h
  split at h
  ·rename_i hx
   rcases hx with hx|hx
   ·omega
   ·exact hx h
  ·cases h
 ·omega
theorem QL.named {a b:Q} (h:QL a b) (before:ByteArray) (first gone:Bool) (hb0:first=true→before=⟨#[]⟩) :
  ∃ b' f',(CS.rd b).bV before (if gone then 3 else 2) eA=(.rd b',f')∧QL (a.dw before first gone).1 b'∧((a.dw before first gone).1.f=none→f'=(a.dw before first gone).2):=by
 have hmx:=a.dE bX 1 64
 obtain ⟨b1,e1,h1⟩:=h.str bX 1 64 [fun v=>dt 1 64 v.size,lI before] eA.name (Bh first (strOf (a.many bX 1 64).2) before) (fun hf=>by
  have hlo:=Q.qG hf
  have hm:(a.many bX 1 64).2.length≤64:=hmx
  have hz:dt 1 64 (strOf (a.many bX 1 64).2).size=0:=by
   unfold dt
   rw [ed,if_neg (by omega),if_neg (by omega)]
  rw [Cz before _ (if first then 0 else 1) (fun h=>hb0 (by cases first <;> simp_all)),hz]
  cases first <;> simp [Bh]) (fun hl=>by
  have hm:(a.many bX 1 64).2.length≤64:=hmx
  have hz:dt 1 64 (strOf (a.many bX 1 64).2).size=4:=by
   unfold dt
   rw [ed,if_neg (by omega),if_pos hl]
  simp only [fb]
  rw [if_neg (by rw [hz];decide)]
  exact hz)
 unfold CS.bV
 rw [e1]
 dsimp only
 unfold Q.dw
 have e0:(a.many bX 1 64).1.ai (Bh first (strOf (a.many bX 1 64).2) before)=a.fY before first:=rfl
 rw [e0] at h1
 generalize a.fY before first=q1 at h1 ⊢
 generalize strOf (a.many bX 1 64).2=nm
 have hbs:({ eA with name:=nm } : cJ).beside=false:=by simp [cJ.beside,eA]
 obtain ⟨b2,e2,h2⟩:=h1.u8 bq [bL 1 (if gone then 3 else 2) 5,hJ false] eA.kind (lv gone (q1.cf bq 1).2) (by
  generalize (q1.cf bq 1).2=k
  simp only [fb,hJ,lv,bL]
  cases gone <;> simp <;> (repeat' split) <;> omega)
 unfold CS.dp
 rw [hbs,e2]
 dsimp only
 generalize (q1.cf bq 1).2=k at h2 ⊢
 generalize (q1.cf bq 1).1.ai (lv gone k)=q2 at h2 ⊢
 unfold Q.eO
 by_cases k1:k=1
 ·rw [if_pos k1,if_pos k1]
  have hmt:=q2.dE dR 0 64
  obtain ⟨b3,e3,h3⟩:=h2.str dR 0 64 [fun v=>dt 0 64 v.size] eA.text 0 (fun _=>by
   have hm:(q2.many dR 0 64).2.length≤64:=hmt
   have hz:dt 0 64 (strOf (q2.many dR 0 64).2).size=0:=by
    unfold dt
    rw [ed,if_neg (by omega),if_neg (by omega)]
   simp only [fb]
   rw [if_pos hz]) (fun hl=>absurd hl (Int.not_lt.2 (Int.natCast_nonneg _)))
  rw [e3]
  rw [Q.bh] at h3
  exact ⟨b3,_,rfl,h3,fun _=>rfl⟩
 rw [if_neg k1,if_neg k1]
 by_cases k2:k=2
 ·rw [if_pos k2,if_pos k2]
  obtain ⟨b3,e3,h3⟩:=h2.f32 cN [] eA.value 0 rfl
  rw [Q.bh] at h3
  rw [e3]
  dsimp only
  obtain ⟨b4,e4,h4⟩:=h3.u8 dS [bL 1 21 4] eA.unit (bL 1 21 4 ((q2.cf cN 5).1.cf dS 1).2) (by simp only [fb];split <;> simp_all)
  rw [e4]
  exact ⟨b4,_,rfl,h4,fun _=>rfl⟩
 ·rw [if_neg k2,if_neg k2]
  exact ⟨b2,_,rfl,h2,fun _=>rfl⟩
theorem gb (c:Q) (before:ByteArray) (last:Nat) (hc:c.f≠none):∃ c' f',(CS.rd c).bV before last eA=(.rd c',f')∧c'.all=c.all∧c'.f=c.f:=by
 have hl:=iG (CS.rd c) before last eA
 cases hp:(CS.rd c).bV before last eA with
 | mk c1 f1 =>
  rw [hp] at hl
  cases c1 with
  | wr s=>exact hl.elim
  | rd c' =>
   obtain ⟨x,hx⟩:=Option.ne_none_iff_exists'.1 hc
   exact ⟨c',f1,rfl,hl.1,by rw [hx];exact hl.2 x hx⟩
theorem QL.loop {a b:Q} (h:QL a b) (gone:Bool):∀ i,∃ b' nm' l',fV (bj (if gone then 3 else 2)) eA i (CS.rd b,⟨#[]⟩)=((CS.rd b',nm'),l')∧QL (a.dX gone i).1 b'∧((a.dX gone i).1.f=none→nm'=(a.dX gone i).2.2∧l'=(a.dX gone i).2.1):=by
 intro i
 induction i with
 | zero=>exact ⟨b,_,_,rfl,h,fun _=>⟨rfl,rfl⟩⟩
 | succ i ih =>
  obtain ⟨b',nm',l',e,hq,hv⟩:=ih
  have h0:decide (i=0)=true→(a.dX gone i).2.2=⟨#[]⟩:=fun h0=>by
   have h1:i=0:=of_decide_eq_true h0
   subst h1
   rfl
  by_cases hf:(a.dX gone i).1.f=none
  ·obtain ⟨rfl,rfl⟩:=hv hf
   obtain ⟨b2,f',e2,h2,hv2⟩:=hq.named (a.dX gone i).2.2 (decide (i=0)) gone h0
   refine ⟨b2,f'.name,(a.dX gone i).2.1++[f'],?_,h2,fun hf2=>?_⟩
   ·simp only [fV]
    rw [e]
    simp only [bj]
    rw [e2]
   ·have:=hv2 hf2
    subst this
    exact ⟨rfl,rfl⟩
  ·have hb:b'.f≠none:=by rw [← hq.f];exact hf
   obtain ⟨b2,f',e2,ha2,hf2⟩:=gb b' nm' (if gone then 3 else 2) hb
   obtain ⟨c1,g1,e3,h3,_⟩:=(QL.refl (a.dX gone i).1).named (a.dX gone i).2.2 (decide (i=0)) gone h0
   obtain ⟨c2,g2,e4,ha4,hf4⟩:=gb (a.dX gone i).1 (a.dX gone i).2.2 (if gone then 3 else 2) hf
   rw [e4] at e3
   have e5:c2=c1:=by
    have:=congrArg Prod.fst e3
    injection this
   subst e5
   have hfx:((a.dX gone i).1.dw (a.dX gone i).2.2 (decide (i=0)) gone).1.f=(a.dX gone i).1.f:=by rw [h3.f,hf4]
   refine ⟨b2,f'.name,l'++[f'],?_,⟨?_,?_,fun hx=>?_⟩,fun hx=>?_⟩
   ·simp only [fV]
    rw [e]
    simp only [bj]
    rw [e2]
   ·show ((a.dX gone i).1.dw (a.dX gone i).2.2 (decide (i=0)) gone).1.all=b2.all
    rw [h3.all,ha4,ha2,hq.all]
   ·show ((a.dX gone i).1.dw (a.dX gone i).2.2 (decide (i=0)) gone).1.f=b2.f
    rw [hfx,hf2,hq.f]
   ·exact absurd (hfx.symm.trans hx) hf
   ·exact absurd (hfx.symm.trans hx) hf
theorem vO (last:Nat) (c:Q) (nm:ByteArray) (hc:c.f≠none):∀ i,∃ c' nm' l',fV (bj last) eA i (CS.rd c,nm)=((CS.rd c',nm'),l')∧c'.all=c.all∧c'.f=c.f:=by
 intro i
 induction i with
 | zero=>exact ⟨c,nm,[],rfl,rfl,rfl⟩
 | succ i ih =>
  obtain ⟨c',nm',l',e,h1,h2⟩:=ih
  obtain ⟨c2,f',e2,ha2,hf2⟩:=gb c' nm' last (by rw [h2];exact hc)
  refine ⟨c2,f'.name,l'++[f'],?_,by rw [ha2,h1],by rw [hf2,h2]⟩
  simp only [fV]
  rw [e]
  simp only [bj]
  rw [e2]
theorem pH (c:Q) (before:ByteArray) (first gone:Bool) (hb0:first=true→before=⟨#[]⟩) (hc:c.f≠none):(c.dw before first gone).1.f=c.f∧(c.dw before first gone).1.all=c.all:=by
 obtain ⟨c1,g1,e3,h3,_⟩:=(QL.refl c).named before first gone hb0
 obtain ⟨c2,g2,e4,ha4,hf4⟩:=gb c before (if gone then 3 else 2) hc
 rw [e4] at e3
 have e5:c2=c1:=by
  have:=congrArg Prod.fst e3
  injection this
 subst e5
 exact ⟨by rw [h3.f,hf4],by rw [h3.all,ha4]⟩
theorem pj (a:Q) (gone:Bool) (i:Nat) (hf:(a.dX gone i).1.f≠none):∀ k,(a.dX gone (i+k)).1.f=(a.dX gone i).1.f∧(a.dX gone (i+k)).1.all=(a.dX gone i).1.all:=by
 intro k
 induction k with
 | zero=>exact ⟨rfl,rfl⟩
 | succ k ih =>
  have h:=pH (a.dX gone (i+k)).1 (a.dX gone (i+k)).2.2 (decide (i+k=0)) gone (fun h0=>by
   have h1:i+k=0:=of_decide_eq_true h0
   rw [h1]
   rfl) (by rw [ih.1];exact hf)
  exact ⟨h.1.trans ih.1,h.2.trans ih.2⟩
theorem QL.rounds {a b:Q} (h:QL a b) (gone:Bool) (i n:Nat) (hin:i≤n) (hi:i=n∨(a.dX gone i).1.f≠none):∃ b' nm' l',fV (bj (if gone then 3 else 2)) eA n (CS.rd b,⟨#[]⟩)=((CS.rd b',nm'),l')∧QL (a.dX gone i).1 b'∧((a.dX gone i).1.f=none→l'=(a.dX gone i).2.1):=by
 obtain ⟨b',nm',l',e,hq,hv⟩:=h.loop gone n
 rcases hi with rfl|hf
 ·exact ⟨b',nm',l',e,hq,fun hx=>(hv hx).2⟩
 ·obtain ⟨k,rfl⟩:∃ k,n=i+k:=⟨n - i,by omega⟩
  obtain ⟨h1,h2⟩:=pj a gone i hf k
  exact ⟨b',nm',l',e,⟨by rw [← h2,hq.all],by rw [← h1,hq.f],fun hx=>absurd hx hf⟩,fun hx=>absurd hx hf⟩
theorem QL.Bi {a b:Q} (h:QL a b) (nm:ByteArray) (m:Int) (rs:List (Int→Nat)) (v:Int) (n:Nat) (hn:(a.cm nm m).1.f=none→n=fb rs ((a.cm nm m).2:Int)):∃ b',(CS.rd b).cL nm m rs v=(.rd b',((a.cm nm m).2:Int))∧QL ((a.cm nm m).1.ai n) b':=by
 obtain ⟨h1,h2⟩:=h.go nm 7 m (by decide)
 have e:(a.cm nm m).2=((b.named nm).go 7 m).2.1:=congrArg Prod.fst h2
 refine ⟨_,?_,h1.ai (m:=fb rs (((b.named nm).go 7 m).2.1:Int)) (fun hf=>by rw [hn hf,e])⟩
 rw [e]
 rfl
theorem QL.fields {a b:Q} (h:QL a b) (used gone:Bool) (rs:List (Int→Nat)) (l0:List cJ) (hrs:(a.cm ak 32).1.f=none→(if used=false∧0<(a.cm ak 32).2 then 4 else 0)=fb (eI 32 rs) ((a.cm ak 32).2:Int)) (i:Nat) (hin:i≤(a.cm ak 32).2) (hi:i=(a.cm ak 32).2∨((a.bE used).dX gone i).1.f≠none) :
  ∃ b' l',(CS.rd b).cS (if gone then 3 else 2) rs l0=(.rd b',l')∧QL ((a.bE used).dX gone i).1 b'∧(((a.bE used).dX gone i).1.f=none→l'=((a.bE used).dX gone i).2.1):=by
 obtain ⟨b1,e1,h1⟩:=h.Bi ak 32 (eI 32 rs) 0 _ hrs
 obtain ⟨b',nm',l',e,hq,hv⟩:=QL.rounds (a:=a.bE used) h1 gone i _ hin hi
 have ec:((b.named ak).go 7 32).2.1=(a.cm ak 32).2:=(congrArg Prod.fst (h.go ak 7 32 (by decide)).2).symm
 have hle:(a.cm ak 32).2≤32:=Q.fx a ak 32
 refine ⟨b',l',?_,hq,hv⟩
 unfold CS.cS
 dsimp only
 rw [ec,Nat.min_eq_left hle,e1]
 dsimp only
 rw [e]
theorem QL.Ef {a b:Q} (h:QL a b) (nm:ByteArray) (rs:List (Nat→Nat)) (v n:Nat) (hn:a.f=none→n=fb rs (a.cf nm 4).2):∃ b',(CS.rd b).ck nm rs v=(.rd b',(a.cf nm 4).2)∧QL ((a.cf nm 4).1.ai n) b':=by
 obtain ⟨h1,h2⟩:=h.go nm 4 0 (by decide)
 have e:(a.cf nm 4).2=((b.named nm).go 4 0).2.1:=congrArg Prod.fst h2
 refine ⟨((b.named nm).go 4 0).1.ai (fb rs ((b.named nm).go 4 0).2.1),by rw [e];rfl,?_⟩
 by_cases hf:a.f=none
 ·exact h1.ai (fun _=>by rw [hn hf,e])
 ·refine h1.ai (fun hx=>?_)
  have e2:(a.ah nm).go 4 0=(a,0,[]):=by
   have:a.ah nm=a:=by unfold Q.ah;rw [if_neg hf]
   rw [this,Q.go_given hf 4 0 (by decide)]
  have e3:(a.cf nm 4).1=a:=congrArg Prod.fst e2
  exact absurd (show a.f=none by rw [← e3];exact hx) hf
theorem QL.id {a b:Q} (h:QL a b) (v:Nat × Nat):∃ b',(CS.rd b).kM v=(.rd b',a.gid.2)∧QL a.gid.1 b':=by
 obtain ⟨b1,e1,h1⟩:=h.u32 da [] v.1 0 rfl
 rw [Q.bh] at h1
 obtain ⟨b2,e2,h2⟩:=h1.u32 eD [] v.2 0 rfl
 rw [Q.bh] at h2
 refine ⟨b2,?_,h2⟩
 unfold CS.kM
 rw [e1]
 dsimp only
 rw [e2]
 rfl
theorem QL.code {a b:Q} (h:QL a b) (v:Nat):∃ b',(CS.rd b).rI v=(.rd b',a.eX.2)∧QL a.eX.1 b':=by
 obtain ⟨b1,e1,h1⟩:=h.u8 fE [bL 0 10 5] v (if 10<(a.cf fE 1).2 then 5 else 0) (by
  generalize (a.cf fE 1).2=k
  simp only [fb,bL]
  by_cases hk:10<k <;> simp [hk])
 exact ⟨b1,e1,h1⟩
theorem Q.sC (q:Q) (n m:Nat):(q.ai n).ai m=q.ai (if n=0 then m else n):=by
 by_cases hn:n=0
 ·subst hn
  rw [Q.bh,if_pos rfl]
 ·rw [if_neg hn]
  by_cases hf:q.f=none
  ·have hne:(q.ai n).f≠none:=by unfold Q.ai;rw [if_neg (by simp [hn,hf])];simp
   generalize q.ai n=r at hne ⊢
   unfold Q.ai
   rw [if_pos (.inr hne)]
  ·have e:∀ k,q.ai k=q:=fun k=>by unfold Q.ai;rw [if_pos (.inr hf)]
   rw [e,e]
theorem Q.eU {q:Q} {n:Nat} (h:(q.ai n).f=none):q.f=none∧n=0:=by
 unfold Q.ai at h
 split at h
 ·rename_i hx
  exact ⟨h,hx.resolve_right (fun hy=>hy h)⟩
 ·cases h
theorem Q.kS {q:Q} {nm:ByteArray} {k:Int} (hk:k≠10) (h:(q.cf nm k).1.f=none):q.f=none:=by
 by_cases hf:q.f=none
 ·exact hf
 ·have e1:q.ah nm=q:=by unfold Q.ah;rw [if_neg hf]
  have e2:(q.cf nm k).1=q:=by
   show ((q.ah nm).go k 0).1=q
   rw [e1,Q.go_given hf k 0 hk]
  rw [e2] at h
  exact h
theorem Q.iz {q:Q} {nm:ByteArray} {u:Bool} (h:(q.cB nm u).1.f=none):q.f=none:=Q.kS (by decide) (Q.eU h).1
theorem QL.CI {a b:Q} (h:QL a b) (nm:ByteArray) (u:Bool) (m hI v:Nat) (hl:a.f=none→(if (if u=false∧(a.cf nm 4).2≠0 then 4 else 0)=0 then m else (if u=false∧(a.cf nm 4).2≠0 then 4 else 0))=bL 0 hI 4 (a.cf nm 4).2):∃ b',(CS.rd b).ck nm [bL 0 hI 4] v=(.rd b',(a.cB nm u).2)∧QL ((a.cB nm u).1.ai m) b':=by
 obtain ⟨b1,e1,h1⟩:=h.Ef nm [bL 0 hI 4] v _ (fun hf=>(hl hf).trans (by simp only [fb];split <;> simp_all))
 rw [← Q.sC] at h1
 exact ⟨b1,e1,h1⟩
theorem QL.only {a b:Q} (h:QL a b) (nm:ByteArray) (u:Bool) (hI v:Nat) (hl:a.f=none→hI=if u then 4294967295 else 0):∃ b',(CS.rd b).ck nm [bL 0 hI 4] v=(.rd b',(a.cB nm u).2)∧QL (a.cB nm u).1 b':=by
 have hv:(a.cf nm 4).2<4294967296:=Q.go_lt _ 4 0
 obtain ⟨b1,e1,h1⟩:=h.CI nm u 0 hI v (fun hf=>by
  rw [hl hf]
  generalize (a.cf nm 4).2=k at hv ⊢
  unfold bL
  cases u
  ·by_cases hk:k=0 <;> simp [hk]
  ·simp
   omega)
 rw [Q.bh] at h1
 exact ⟨b1,e1,h1⟩
theorem Q.go_fz {q:Q} {k m:Int} (hk:k≠10) (h:(q.go k m).1.f=none):q.f=none:=by
 by_cases hf:q.f=none
 ·exact hf
 ·rw [Q.go_given hf k m hk] at h
  exact h
theorem Q.qx {q:Q} {nm:ByteArray} {lo m:Int} (h:(q.many nm lo m).1.f=none):q.f=none:=by
 have:=Q.go_fz (by decide) (Q.eU h).1
 rw [Q.fP] at this
 exact this
theorem Q.Cr {q:Q} {nm:ByteArray} {m:Int} (h:(q.cm nm m).1.f=none):q.f=none:=by
 have:=Q.go_fz (q:=q.ah nm) (k:=7) (m:=m) (by decide) h
 rw [Q.fP] at this
 exact this
theorem Q.zV {q:Q} (h:q.eX.1.f=none):q.f=none:=Q.kS (by decide) (Q.eU h).1
theorem QL.CA {a b:Q} (h:QL a b) (gone:Bool) (last:Nat) (l0:List cJ) (i:Nat) (hin:i≤(a.cm ak 32).2) (hi:i=(a.cm ak 32).2∨((a.bE false).dX gone i).1.f≠none) :
  ∃ b' l',(CS.rd b).cS last [mj 0 0 4] l0=(.rd b',l')∧QL ((a.bE false).dX gone i).1 b'∧(((a.bE false).dX gone i).1.f=none→l'=((a.bE false).dX gone i).2.1):=by
 have hle:(a.cm ak 32).2≤32:=Q.fx a ak 32
 obtain ⟨b1,e1,h1⟩:=h.Bi ak 32 (eI 32 [mj 0 0 4]) 0 (if false=false∧0<(a.cm ak 32).2 then 4 else 0) (fun _=>by
  rw [zP]
  generalize (a.cm ak 32).2=n at hle ⊢
  rw [if_neg (show ¬ 32<n by omega)]
  by_cases hn:0<n
  ·rw [if_pos ⟨rfl,hn⟩,if_pos (by omega)]
  ·rw [if_neg (fun h=>hn h.2),if_neg (by omega)])
 have ec:((b.named ak).go 7 32).2.1=(a.cm ak 32).2:=(congrArg Prod.fst (h.go ak 7 32 (by decide)).2).symm
 have eg:(a.cm ak 32).1.ai (if false=false∧0<(a.cm ak 32).2 then 4 else 0)=a.bE false:=rfl
 have e0:(CS.rd b).cS last [mj 0 0 4] l0=((fV (bj last) eA (a.cm ak 32).2 (CS.rd b1,⟨#[]⟩)).1.1,(fV (bj last) eA (a.cm ak 32).2 (CS.rd b1,⟨#[]⟩)).2):=by
  unfold CS.cS
  dsimp only
  rw [ec,Nat.min_eq_left hle,e1]
 rw [e0]
 by_cases hn:0<(a.cm ak 32).2
 ·have hf:(a.bE false).f≠none:=by
   intro hx
   have:=(Q.eU (eg ▸ hx)).2
   rw [if_pos ⟨rfl,hn⟩] at this
   cases this
  have hf1:b1.f≠none:=by rw [← h1.f,eg];exact hf
  obtain ⟨c',nm',l',e2,ha,hc⟩:=vO last b1 ⟨#[]⟩ hf1 (a.cm ak 32).2
  have hs:=pj (a.bE false) gone 0 hf i
  rw [Nat.zero_add] at hs
  have hs1:((a.bE false).dX gone i).1.f=(a.bE false).f:=hs.1
  have hs2:((a.bE false).dX gone i).1.all=(a.bE false).all:=hs.2
  rw [e2]
  exact ⟨c',l',rfl,⟨by rw [hs2,ha,← h1.all,eg],by rw [hs1,hc,← h1.f,eg],fun hx=>absurd (hs1.symm.trans hx) hf⟩,fun hx=>absurd (hs1.symm.trans hx) hf⟩
 ·have hz:(a.cm ak 32).2=0:=by omega
  have hi0:i=0:=by omega
  subst hi0
  rw [hz]
  exact ⟨b1,[],rfl,eg ▸ h1,fun _=>rfl⟩
theorem D2 {lo hi n v:Nat} (hn:n≠0) (h:bL lo hi n v=0):lo≤v∧v≤hi:=by
 unfold bL at h
 split at h
 ·exact absurd h hn
 ·omega
theorem j5 {P:Nat→Prop} (h1:P 1) (h2:P 2) (h3:P 3) (h4:P 4) (h5:P 5) (h6:P 6) (h7:P 7) (n:Nat) (hl:1≤n) (hh:n≤7):P n:=by
 rcases (by omega:n=1∨n=2∨n=3∨n=4∨n=5∨n=6∨n=7) with rfl|rfl|rfl|rfl|rfl|rfl|rfl <;> assumption
theorem pG (op:Nat) (h1:1≤op) (h7:op≤7):(bg op).1=(if (us op).1 then 4294967295 else 0)∧(bg op).2.2.1=(if (us op).2.2.1 then 4294967295 else 0)∧(bg op).2.2.2.1=(if (us op).2.2.1 then 4294967295 else 0):=by
 revert op
 exact fun op h1 h7=>j5 (P:=fun op=>(bg op).1=(if (us op).1 then 4294967295 else 0)∧(bg op).2.2.1=(if (us op).2.2.1 then 4294967295 else 0)∧(bg op).2.2.2.1=(if (us op).2.2.1 then 4294967295 else 0)) (by decide) (by decide) (by decide) (by decide) (by decide) (by decide) (by decide) op h1 h7
theorem y9 (op ve:Nat) (hv:ve<4294967296) (h1:1≤op) (h7:op≤7):(if (if (us op).2.1=false∧ve≠0 then 4 else 0)=0 then (if op=6∧1<ve then 4 else 0) else (if (us op).2.1=false∧ve≠0 then 4 else 0))=bL 0 (bg op).2.1 4 ve:=by
 have key:∀ (u:Bool) (hI:Nat) (six:Bool),(us op).2.1=u→(bg op).2.1=hI→decide (op=6)=six→(u=true→hI=if six then 1 else 4294967295)→(u=false→hI=0∧six=false)→(if (if (us op).2.1=false∧ve≠0 then 4 else 0)=0 then (if op=6∧1<ve then 4 else 0) else (if (us op).2.1=false∧ve≠0 then 4 else 0))=bL 0 (bg op).2.1 4 ve:=by
  intro u hI six eu el es ht hf
  rw [eu,el]
  unfold bL
  cases u
  ·obtain ⟨rfl,rfl⟩:=hf rfl
   have h6:¬ op=6:=of_decide_eq_false es
   by_cases hz:ve=0
   ·subst hz
    simp
   ·have hp:0<ve:=by omega
    simp [hz,hp]
  ·have hl:=ht rfl
   rw [if_neg (show ¬ (true=false∧ve≠0) from fun h=>by cases h.1),if_pos rfl]
   cases six
   ·have h6:¬ op=6:=of_decide_eq_false es
    rw [if_neg (fun h=>h6 h.1),hl,if_neg (by simp;omega)]
   ·have h6:op=6:=of_decide_eq_true es
    rw [hl]
    by_cases hz:1<ve
    ·rw [if_pos ⟨h6,hz⟩,if_pos (.inr hz)]
    ·rw [if_neg (fun h=>hz h.2),if_neg (by simp;omega)]
 refine j5 (P:=fun o=>op=o→_) ?_ ?_ ?_ ?_ ?_ ?_ ?_ op h1 h7 rfl
 all_goals
  intro ho
  subst ho
 ·exact key false 0 false (by decide) (by decide) (by decide) (by decide) (by decide)
 ·exact key true 4294967295 false (by decide) (by decide) (by decide) (by decide) (by decide)
 ·exact key true 4294967295 false (by decide) (by decide) (by decide) (by decide) (by decide)
 ·exact key true 4294967295 false (by decide) (by decide) (by decide) (by decide) (by decide)
 ·exact key false 0 false (by decide) (by decide) (by decide) (by decide) (by decide)
 ·exact key true 1 true (by decide) (by decide) (by decide) (by decide) (by decide)
 ·exact key false 0 false (by decide) (by decide) (by decide) (by decide) (by decide)
theorem BL (op:Nat):((us op).2.2.2.1=true∧(bg op).2.2.2.2.1=32∧(bg op).2.2.2.2.2.2=(if decide (op=2) then 3 else 2))∨((us op).2.2.2.1=false∧(bg op).2.2.2.2.1=0):=by
 by_cases h:1≤op∧op≤7
 ·exact j5 (P:=fun op=>((us op).2.2.2.1=true∧(bg op).2.2.2.2.1=32∧(bg op).2.2.2.2.2.2=(if decide (op=2) then 3 else 2))∨((us op).2.2.2.1=false∧(bg op).2.2.2.2.1=0)) (by decide) (by decide) (by decide) (by decide) (by decide) (by decide) (by decide) op h.1 h.2
 ·right
  unfold us bg
  have h1:¬ op=1:=by omega
  have h2:¬ op=2:=by omega
  have h3:¬ op=3:=by omega
  have h4:¬ op=4:=by omega
  have h5:¬ op=5:=by omega
  have h6:¬ op=6:=by omega
  have h7:¬ op=7:=by omega
  simp [h1,h2,h3,h4,h5,h6,h7]
theorem Bb (op:Nat):((us op).2.2.2.2=true∧(bg op).2.2.2.2.2.1=64)∨((us op).2.2.2.2=false∧(bg op).2.2.2.2.2.1=0):=by
 by_cases h:1≤op∧op≤7
 ·exact j5 (P:=fun op=>((us op).2.2.2.2=true∧(bg op).2.2.2.2.2.1=64)∨((us op).2.2.2.2=false∧(bg op).2.2.2.2.2.1=0)) (by decide) (by decide) (by decide) (by decide) (by decide) (by decide) (by decide) op h.1 h.2
 ·right
  unfold us bg
  have h1:¬ op=1:=by omega
  have h2:¬ op=2:=by omega
  have h3:¬ op=3:=by omega
  have h4:¬ op=4:=by omega
  have h5:¬ op=5:=by omega
  have h6:¬ op=6:=by omega
  have h7:¬ op=7:=by omega
  simp [h1,h2,h3,h4,h5,h6,h7]
theorem QL.request {a b:Q} (h:QL a b) (i:Nat) (hok:a.th i):∃ b' v',(CS.rd b).bw jM=(.rd b',v')∧QL (a.ts i) b'∧((a.ts i).f=none→v'=a.gO i):=by
 obtain ⟨b1,e1,h1⟩:=h.id (jM.cl,jM.nu)
 obtain ⟨b2,e2,h2⟩:=h1.u32 ja [] jM.ac 0 rfl
 rw [Q.bh] at h2
 have h2:QL a.r2.1 b2:=h2
 obtain ⟨b3,e3,h3⟩:=h2.u8 xw [bL 1 7 5] jM.op (bL 1 7 5 a.r3.2) (by show bL 1 7 5 a.r3.2=fb [bL 1 7 5] a.r3.2;simp only [fb];split <;> simp_all)
 have h3:QL a.D0 b3:=h3
 have hop:a.D0.f=none→1≤a.r3.2∧a.r3.2≤7:=fun hf=>D2 (by decide) (Q.eU hf).2
 obtain ⟨b4,e4,h4⟩:=h3.only db (us a.r3.2).1 (bg a.r3.2).1 jM.re (fun hf=>(pG _ (hop hf).1 (hop hf).2).1)
 have h4:QL a.r4.1 b4:=h4
 obtain ⟨b5,e5,h5⟩:=h4.CI cy (us a.r3.2).2.1 (if a.r3.2=6∧1<a.r5.2 then 4 else 0) (bg a.r3.2).2.1 jM.ve (fun hf=>by
  have hg:=hop (Q.iz hf)
  exact y9 a.r3.2 (a.r4.1.cf cy 4).2 (Q.go_lt _ 4 0) hg.1 hg.2)
 have h5:QL a.DC b5:=h5
 have hop5:a.DC.f=none→1≤a.r3.2∧a.r3.2≤7:=fun hf=>hop (Q.iz (Q.iz (Q.eU hf).1))
 obtain ⟨b6,e6,h6⟩:=h5.only jv (us a.r3.2).2.2.1 (bg a.r3.2).2.2.1 jM.wa (fun hf=>(pG _ (hop5 hf).1 (hop5 hf).2).2.1)
 have h6:QL a.r6.1 b6:=h6
 obtain ⟨b7,e7,h7⟩:=h6.only gN (us a.r3.2).2.2.1 (bg a.r3.2).2.2.2.1 jM.ow (fun hf=>(pG _ (hop5 (Q.iz hf)).1 (hop5 (Q.iz hf)).2).2.2)
 have h7:QL a.r7.1 b7:=h7
 obtain ⟨b8,l8,e8,h8,hv8⟩:∃ b8 l8,(CS.rd b7).cS (bg a.r3.2).2.2.2.2.2.2 [mj 0 (bg a.r3.2).2.2.2.2.1 4] jM.fs=(.rd b8,l8)∧QL (a.r8 i).1 b8∧((a.r8 i).1.f=none→l8=(a.r8 i).2.1):=by
  unfold Q.th at hok
  unfold Q.r8 at hok ⊢
  rcases BL a.r3.2 with ⟨eu,em,el⟩|⟨eu,em⟩
  ·rw [eu] at hok ⊢
   rw [em,el]
   have hle:(a.r7.1.cm ak 32).2≤32:=Q.fx _ ak 32
   exact h7.fields true (decide (a.r3.2=2)) [mj 0 32 4] jM.fs (fun _=>by
    rw [zP,if_neg (fun h=>by cases h.1),if_neg (by omega),if_neg (by omega)]) i hok.1 hok.2
  ·rw [eu] at hok ⊢
   rw [em]
   exact h7.CA (decide (a.r3.2=2)) _ jM.fs i hok.1 hok.2
 have hmx:(a.r9 i).2.length≤64:=(a.r8 i).1.dE eB 0 64
 obtain ⟨b9,e9,h9⟩:=h8.str eB 0 64 [fun v=>dt 0 64 v.size,Ca (bg a.r3.2).2.2.2.2.2.1] jM.rs (if (us a.r3.2).2.2.2.2=false∧0<(a.r9 i).2.length then 4 else 0) (fun _=>by
  show _=fb _ (strOf (a.r9 i).2)
  rw [Cq,ed]
  generalize (a.r9 i).2.length=n at hmx ⊢
  have hz:dt 0 64 n=0:=by
   unfold dt
   rw [if_neg (by omega),if_neg (by omega)]
  rw [hz,if_pos rfl]
  rcases Bb a.r3.2 with ⟨eu,em⟩|⟨eu,em⟩
  ·rw [eu,em,if_neg (fun h=>by cases h.1),if_neg (by omega)]
  ·rw [eu,em]
   by_cases hn:0<n
   ·rw [if_pos ⟨rfl,hn⟩,if_pos (by omega)]
   ·rw [if_neg (fun h=>hn h.2),if_neg (by omega)]) (fun hl=>absurd hl (Int.not_lt.2 (Int.natCast_nonneg _)))
 have h9:QL (a.ts i) b9:=h9
 have q1:(CS.rd b).q1 jM=(.rd b1,a.gid.2):=e1
 have q2:(CS.rd b).q2 jM=(.rd b2,a.r2.2):=by unfold CS.q2;rw [q1];exact e2
 have q3:(CS.rd b).q3 jM=(.rd b3,a.r3.2):=by unfold CS.q3;rw [q2];exact e3
 have q4:(CS.rd b).q4 jM=(.rd b4,a.r4.2):=by unfold CS.q4;rw [q3];exact e4
 have q5:(CS.rd b).q5 jM=(.rd b5,a.r5.2):=by unfold CS.q5;rw [q4,q3];exact e5
 have q6:(CS.rd b).q6 jM=(.rd b6,a.r6.2):=by unfold CS.q6;rw [q5,q3];exact e6
 have q7:(CS.rd b).q7 jM=(.rd b7,a.r7.2):=by unfold CS.q7;rw [q6,q3];exact e7
 have q8:(CS.rd b).q8 jM=(.rd b8,l8):=by unfold CS.q8;rw [q7,q3];exact e8
 have q9:(CS.rd b).q9 jM=(.rd b9,strOf (a.r9 i).2):=by unfold CS.q9;rw [q8,q3];exact e9
 refine ⟨b9,⟨a.gid.2.1,a.gid.2.2,a.r2.2,a.r3.2,a.r4.2,a.r5.2,a.r6.2,a.r7.2,l8,strOf (a.r9 i).2⟩,?_,h9,fun hf=>?_⟩
 ·unfold CS.bw
  rw [q1,q2,q3,q4,q5,q6,q7,q8,q9]
 ·have hf8:(a.r8 i).1.f=none:=Q.qx (Q.eU hf).1
  rw [hv8 hf8]
  rfl
theorem QL.event {a b:Q} (h:QL a b) (i:Nat) (hok:a.v2.1.th i):∃ b' v',(CS.rd b).bO tK=(.rd b',v')∧QL (a.v5 i).1 b'∧((a.v5 i).1.f=none→v'=a.tc i):=by
 obtain ⟨b1,e1,h1⟩:=h.u32 jg [] tK.pl 0 rfl
 rw [Q.bh] at h1
 have h1:QL a.v2.1 b1:=h1
 obtain ⟨b2,v2,e2,h2,hv2⟩:=h1.request i hok
 obtain ⟨b3,e3,h3⟩:=h2.code tK.co
 have h3:QL (a.v4 i).1 b3:=h3
 have hmx:(a.v5 i).2.length≤32:=(a.v4 i).1.dE eE 1 32
 obtain ⟨b4,e4,h4⟩:=h3.DX eE 1 32 [fun v=>dt 1 32 v.length] tK.dg 0 (fun hf=>by
  have hlo:(1:Int)≤(((a.v5 i).2.length:Nat):Int):=Q.qG hf
  show 0=fb _ (a.v5 i).2
  have hz:dt 1 32 (a.v5 i).2.length=0:=by
   unfold dt
   rw [if_neg (by omega),if_neg (by omega)]
  simp only [fb]
  rw [if_pos hz]) (fun hl=>by
  show fb _ (a.v5 i).2=4
  have hl:(((a.v5 i).2.length:Nat):Int)<1:=hl
  have hz:dt 1 32 (a.v5 i).2.length=4:=by
   unfold dt
   rw [if_neg (by omega),if_pos hl]
  simp only [fb]
  rw [if_neg (by rw [hz];decide)]
  exact hz)
 rw [Q.bh] at h4
 have h4:QL (a.v5 i).1 b4:=h4
 have q1:(CS.rd b).e1 tK=(.rd b1,a.v2.2):=e1
 have q2:(CS.rd b).e2 tK=(.rd b2,v2):=by unfold CS.e2;rw [q1];exact e2
 have q3:(CS.rd b).e3 tK=(.rd b3,(a.v4 i).2):=by unfold CS.e3;rw [q2];exact e3
 have q4:(CS.rd b).e4 tK=(.rd b4,(a.v5 i).2):=by unfold CS.e4;rw [q3];exact e4
 refine ⟨b4,⟨a.v2.2,v2,(a.v4 i).2,(a.v5 i).2⟩,?_,h4,fun hf=>?_⟩
 ·unfold CS.bO
  rw [q1,q2,q3,q4]
 ·have hf2:(a.v2.1.ts i).f=none:=Q.zV (Q.qx hf)
  rw [hv2 hf2]
  rfl
def Q.gl {α:Type} (g:Q→Q × α) (q:Q):Nat→Q × List α
 | 0=>(q,[])
 | n+1=>((g (Q.gl g q n).1).1,(Q.gl g q n).2++[(g (Q.gl g q n).1).2])
theorem Q.zO {α:Type} (g:Q→Q × α) (q:Q) (n:Nat):(Q.gl g q n).2.length=n:=by
 induction n with
 | zero=>rfl
 | succ n ih=>simp [Q.gl,ih]
structure gQ {α:Type} (each:CS→α→CS × α) (z:α) (g:Q→Q × α):Prop where
 fl:∀ (c:CS) (v:α),c.later (each c v).1
 fg:∀ {a b:Q},QL a b→∃ b' v,each (.rd b) z=(.rd b',v)∧QL (g a).1 b'∧((g a).1.f=none→v=(g a).2)
 fz:∀ q:Q,(g q).1.f=none→q.f=none
theorem gQ.loop {α:Type} {each:CS→α→CS × α} {z:α} {g:Q→Q × α} (H:gQ each z g) {a b:Q} (h:QL a b):∀ n,∃ b' l',bD each z n (.rd b)=(.rd b',l')∧QL (Q.gl g a n).1 b'∧((Q.gl g a n).1.f=none→l'=(Q.gl g a n).2):=by
 intro n
 induction n with
 | zero=>exact ⟨b,[],rfl,h,fun _=>rfl⟩
 | succ n ih =>
  obtain ⟨b1,l1,e1,h1,v1⟩:=ih
  obtain ⟨b2,v,e2,h2,v2⟩:=H.fg h1
  refine ⟨b2,l1++[v],?_,h2,fun hf=>?_⟩
  ·simp only [bD]
   rw [e1]
   dsimp only
   rw [e2]
  ·have hf2:(g (Q.gl g a n).1).1.f=none:=hf
   rw [v1 (H.fz _ hf2),v2 hf2]
   rfl
theorem gQ.CY {α:Type} {each:CS→α→CS × α} {z:α} {g:Q→Q × α} (H:gQ each z g) (q:Q) (hq:q.f≠none):(g q).1.f=q.f∧(g q).1.all=q.all:=by
 obtain ⟨b',v,e,h,_⟩:=H.fg (QL.refl q)
 have hl:=H.fl (.rd q) z
 rw [e] at hl
 obtain ⟨x,hx⟩:=Option.ne_none_iff_exists'.1 hq
 exact ⟨by rw [h.f,hx];exact hl.2 x hx,by rw [h.all];exact hl.1⟩
theorem gQ.stuck {α:Type} {each:CS→α→CS × α} {z:α} {g:Q→Q × α} (H:gQ each z g) (a:Q) (i:Nat) (hf:(Q.gl g a i).1.f≠none):∀ k,(Q.gl g a (i+k)).1.f=(Q.gl g a i).1.f∧(Q.gl g a (i+k)).1.all=(Q.gl g a i).1.all:=by
 intro k
 induction k with
 | zero=>exact ⟨rfl,rfl⟩
 | succ k ih =>
  have h:=H.CY (Q.gl g a (i+k)).1 (by rw [ih.1];exact hf)
  exact ⟨h.1.trans ih.1,h.2.trans ih.2⟩
theorem gQ.z0 {α:Type} {each:CS→α→CS × α} {z:α} {g:Q→Q × α} (H:gQ each z g) (a:Q) (i:Nat) (h:(Q.gl g a i).1.f=none):a.f=none:=by
 by_cases hf:a.f=none
 ·exact hf
 ·have:=(H.stuck a 0 hf i).1
  rw [Nat.zero_add] at this
  rw [this] at h
  exact absurd h hf
theorem gQ.rounds {α:Type} {each:CS→α→CS × α} {z:α} {g:Q→Q × α} (H:gQ each z g) {a b:Q} (h:QL a b) (i n:Nat) (hin:i≤n) (hi:i=n∨(Q.gl g a i).1.f≠none):∃ b' l',bD each z n (.rd b)=(.rd b',l')∧QL (Q.gl g a i).1 b'∧((Q.gl g a i).1.f=none→l'=(Q.gl g a i).2):=by
 obtain ⟨b',l',e,hq,hv⟩:=H.loop h n
 rcases hi with rfl|hf
 ·exact ⟨b',l',e,hq,hv⟩
 ·obtain ⟨k,rfl⟩:∃ k,n=i+k:=⟨n - i,by omega⟩
  obtain ⟨h1,h2⟩:=H.stuck a i hf k
  exact ⟨b',l',e,⟨by rw [← h2,hq.all],by rw [← h1,hq.f],fun hx=>absurd hx hf⟩,fun hx=>absurd hx hf⟩
def Q.s2 (q:Q):Q × Nat:=(q.cf eY 4).1.cf iW 4
def Q.s3 (q:Q):Q × Nat:=q.s2.1.cf kD 4
def Q.s4 (q:Q):Q × Nat:=q.s3.1.cf jy 1
def Q.jD (q:Q):Q × dM:=(q.s4.1.ai (if 1<q.s4.2 then 4 else 0),⟨(q.cf eY 4).2,q.s2.2,q.s3.2,((q.s4.2:Nat):Int) == 1⟩)
theorem uI (lo hi n k:Nat):fb [bL lo hi n] k=bL lo hi n k:=by
 simp only [fb]
 split <;> simp_all
theorem oV:gQ (fun c v=>CS.aH c v) ia Q.jD:=by
 refine ⟨fun c v=>gp c v,fun {a b} h=>?_,fun q hf=>?_⟩
 ·obtain ⟨b1,e1,h1⟩:=h.u32 eY [] ia.au 0 rfl
  rw [Q.bh] at h1
  obtain ⟨b2,e2,h2⟩:=h1.u32 iW [] ia.ev 0 rfl
  rw [Q.bh] at h2
  have h2:QL a.s2.1 b2:=h2
  obtain ⟨b3,e3,h3⟩:=h2.u32 kD [] ia.fi 0 rfl
  rw [Q.bh] at h3
  have h3:QL a.s3.1 b3:=h3
  obtain ⟨b4,e4,h4⟩:=h3.u8 jy [bL 0 1 4] ia.gone (if 1<a.s4.2 then 4 else 0) (by
   show (if 1<a.s4.2 then 4 else 0)=fb [bL 0 1 4] a.s4.2
   rw [uI]
   generalize a.s4.2=k
   unfold bL
   by_cases hk:1<k
   ·rw [if_pos hk,if_pos (.inr hk)]
   ·rw [if_neg hk,if_neg (by omega)])
  have h4:QL a.jD.1 b4:=h4
  have q1:(CS.rd b).s1 ia=(.rd b1,(a.cf eY 4).2):=e1
  have q2:(CS.rd b).s2 ia=(.rd b2,a.s2.2):=by unfold CS.s2;rw [q1];exact e2
  have q3:(CS.rd b).s3 ia=(.rd b3,a.s3.2):=by unfold CS.s3;rw [q2];exact e3
  have q4:(CS.rd b).s4 ia=(.rd b4,a.s4.2):=by unfold CS.s4;rw [q3];exact e4
  refine ⟨b4,a.jD.2,?_,h4,fun _=>rfl⟩
  show CS.aH (.rd b) ia=_
  unfold CS.aH
  rw [q1,q2,q3,q4]
  rfl
 ·exact Q.kS (by decide) (Q.kS (by decide) (Q.kS (by decide) (Q.kS (by decide) (Q.eU hf).1)))
def Q.BG (q:Q):Q × List Nat:=q.many br 1 32
theorem QL.hash {a b:Q} (h:QL a b) (nm:ByteArray) (v:List Nat):∃ b',(CS.rd b).bR nm v=(.rd b',(a.many nm 1 32).2)∧QL (a.many nm 1 32).1 b':=by
 have hmx:(a.many nm 1 32).2.length≤32:=a.dE nm 1 32
 obtain ⟨b4,e4,h4⟩:=h.DX nm 1 32 [fun v=>dt 1 32 v.length] v 0 (fun hf=>by
  have hlo:=Q.qG hf
  have hz:dt 1 32 (a.many nm 1 32).2.length=0:=by
   unfold dt
   rw [if_neg (by omega),if_neg (by omega)]
  simp only [fb]
  rw [if_pos hz]) (fun hl=>by
  have hz:dt 1 32 (a.many nm 1 32).2.length=4:=by
   unfold dt
   rw [if_neg (by omega),if_pos hl]
  simp only [fb]
  rw [if_neg (by rw [hz];decide)]
  exact hz)
 rw [Q.bh] at h4
 exact ⟨b4,e4,h4⟩
theorem vf:gQ (fun c v=>CS.bR c br v) [] Q.BG:=by
 refine ⟨fun c v=>fK c br v,fun {a b} h=>?_,fun q hf=>Q.qx hf⟩
 obtain ⟨b1,e1,h1⟩:=h.hash br []
 exact ⟨b1,_,e1,h1,fun _=>rfl⟩
def Q.a2 (q:Q):Q × Nat:=q.gid.1.eX
def Q.a3 (q:Q):Q × Nat:=q.a2.1.cf db 4
def Q.a4 (q:Q):Q × Nat:=q.a3.1.cf cy 4
def Q.a5 (q:Q) (i:Nat):Q × List cJ × ByteArray:=(q.a4.1.bE true).dX false i
def Q.a6 (q:Q) (i:Nat):Q × Nat:=(q.a5 i).1.cm aR 64
def Q.a7 (q:Q) (i j:Nat):Q × List dM:=Q.gl Q.jD (q.a6 i).1 j
def Q.pE (q:Q) (i j:Nat):iy:=⟨q.gid.2.1,q.gid.2.2,q.a2.2,q.a3.2,q.a4.2,(q.a5 i).2.1,(q.a7 i j).2⟩
def Q.C6 (q:Q) (i j:Nat):Prop:=(i≤(q.a4.1.cm ak 32).2∧(i=(q.a4.1.cm ak 32).2∨(q.a5 i).1.f≠none))∧j≤(q.a6 i).2∧(j=(q.a6 i).2∨(q.a7 i j).1.f≠none)
theorem qL (n m:Nat) (h:n≤m):fb (eI (m:Nat) []) ((n:Nat):Int)=0:=by
 have hz:mj 0 (m:Nat) 2 ((n:Nat):Int)=0:=by
  unfold mj
  rw [if_neg (by omega)]
 unfold eI
 simp only [fb]
 rw [if_pos hz]
theorem QL.answer {a b:Q} (h:QL a b) (i j:Nat) (hok:a.C6 i j):∃ b' v',(CS.rd b).bK rL=(.rd b',v')∧QL (a.a7 i j).1 b'∧((a.a7 i j).1.f=none→v'=a.pE i j):=by
 obtain ⟨b1,e1,h1⟩:=h.id (rL.cl,rL.nu)
 obtain ⟨b2,e2,h2⟩:=h1.code rL.co
 have h2:QL a.a2.1 b2:=h2
 obtain ⟨b3,e3,h3⟩:=h2.u32 db [] rL.re 0 rfl
 rw [Q.bh] at h3
 have h3:QL a.a3.1 b3:=h3
 obtain ⟨b4,e4,h4⟩:=h3.u32 cy [] rL.ve 0 rfl
 rw [Q.bh] at h4
 have h4:QL a.a4.1 b4:=h4
 obtain ⟨b5,l5,e5,h5,hv5⟩:=h4.fields true false [] rL.fs (fun _=>by
  have hle:(a.a4.1.cm ak 32).2≤32:=Q.fx _ ak 32
  rw [if_neg (fun h=>by cases h.1)]
  exact (qL _ 32 hle).symm) i hok.1.1 hok.1.2
 have h5:QL (a.a5 i).1 b5:=h5
 have hle:(a.a6 i).2≤64:=Q.fx _ aR 64
 obtain ⟨b6,e6,h6⟩:=h5.Bi aR 64 (eI 64 []) 0 0 (fun _=>(qL _ 64 hle).symm)
 rw [Q.bh] at h6
 have h6:QL (a.a6 i).1 b6:=h6
 obtain ⟨b7,l7,e7,h7,hv7⟩:=oV.rounds h6 j _ hok.2.1 hok.2.2
 have h7:QL (a.a7 i j).1 b7:=h7
 have ec:((b5.named aR).go 7 64).2.1=(a.a6 i).2:=(congrArg Prod.fst (h5.go aR 7 64 (by decide)).2).symm
 have q1:(CS.rd b).a1 rL=(.rd b1,a.gid.2):=e1
 have q2:(CS.rd b).a2 rL=(.rd b2,a.a2.2):=by unfold CS.a2;rw [q1];exact e2
 have q3:(CS.rd b).a3 rL=(.rd b3,a.a3.2):=by unfold CS.a3;rw [q2];exact e3
 have q4:(CS.rd b).a4 rL=(.rd b4,a.a4.2):=by unfold CS.a4;rw [q3];exact e4
 have q5:(CS.rd b).a5 rL=(.rd b5,l5):=by unfold CS.a5;rw [q4];exact e5
 have q6:(CS.rd b).a6 rL=(.rd b7,l7):=by
  unfold CS.a6
  rw [q5]
  unfold CS.nA
  dsimp only
  rw [ec,Nat.min_eq_left hle,e6]
  exact e7
 refine ⟨b7,⟨a.gid.2.1,a.gid.2.2,a.a2.2,a.a3.2,a.a4.2,l5,l7⟩,?_,h7,fun hf=>?_⟩
 ·unfold CS.bK
  rw [q1,q2,q3,q4,q5,q6]
 ·have hf6:(a.a6 i).1.f=none:=oV.z0 _ j hf
  rw [hv5 (Q.Cr hf6),hv7 hf]
  rfl
def Q.p1 (q:Q):Q × Nat:=q.cm cC 4096
def Q.p2 (q:Q) (j:Nat):Q × List (List Nat):=Q.gl Q.BG q.p1.1 j
def Q.Dv (q:Q) (j:Nat):Prop:=j≤q.p1.2∧(j=q.p1.2∨(q.p2 j).1.f≠none)
theorem QL.proof {a b:Q} (h:QL a b) (j:Nat) (hok:a.Dv j):∃ b' v',(CS.rd b).gn []=(.rd b',v')∧QL (a.p2 j).1 b'∧((a.p2 j).1.f=none→v'=(a.p2 j).2):=by
 have hle:a.p1.2≤4096:=Q.fx _ cC 4096
 obtain ⟨b6,e6,h6⟩:=h.Bi cC (4096:Nat) (eI (4096:Nat) []) 0 0 (fun _=>(qL _ 4096 hle).symm)
 rw [Q.bh] at h6
 have h6:QL a.p1.1 b6:=h6
 obtain ⟨b7,l7,e7,h7,hv7⟩:=vf.rounds h6 j _ hok.1 hok.2
 have ec:((b.named cC).go 7 (4096:Nat)).2.1=a.p1.2:=(congrArg Prod.fst (h.go cC 7 (4096:Nat) (by decide)).2).symm
 refine ⟨b7,l7,?_,h7,hv7⟩
 unfold CS.gn
 dsimp only
 rw [ec,Nat.min_eq_left hle,e6]
 exact e7
theorem QL.head {a b:Q} (h:QL a b):∃ b',(CS.rd b).dH (0,[])=(.rd b',a.bB.2)∧QL a.bB.1 b':=by
 obtain ⟨b1,e1,h1⟩:=h.u32 dm [] 0 0 rfl
 rw [Q.bh] at h1
 obtain ⟨b2,e2,h2⟩:=h1.hash dB []
 refine ⟨b2,?_,h2⟩
 unfold CS.dH
 rw [e1]
 dsimp only
 rw [e2]
 rfl
theorem QL.signed {a b:Q} (h:QL a b):∃ b',(CS.rd b).cD ((0,[]),0,[])=(.rd b',a.aX.2)∧QL a.aX.1 b':=by
 obtain ⟨b1,e1,h1⟩:=h.head
 obtain ⟨b2,e2,h2⟩:=h1.u32 ei [] 0 0 rfl
 rw [Q.bh] at h2
 have hmx:((a.bB.1.cf ei 4).1.many bA 0 32768).2.length≤32768:=Q.dE _ bA 0 32768
 obtain ⟨b3,e3,h3⟩:=h2.DX bA 0 32768 [fun v=>dt 0 32768 v.length] [] 0 (fun _=>by
  have hz:dt 0 32768 ((a.bB.1.cf ei 4).1.many bA 0 32768).2.length=0:=by
   unfold dt
   rw [if_neg (by omega),if_neg (by omega)]
  simp only [fb]
  rw [if_pos hz]) (fun hl=>absurd hl (Int.not_lt.2 (Int.natCast_nonneg _)))
 rw [Q.bh] at h3
 refine ⟨b3,?_,h3⟩
 unfold CS.cD
 rw [e1]
 dsimp only
 rw [e2]
 dsimp only
 rw [e3]
 rfl
def Q.m1 (q:Q):Q × Nat:=q.cf bq 1
def Q.zj (q:Q):Q:=q.m1.1.ai (bL 1 7 5 q.m1.2)
def Q.mb (q:Q):Q × Nat:=((q.gid.1.cf ff 1).1.ai (bL 1 15 4 (q.gid.1.cf ff 1).2),(q.gid.1.cf ff 1).2)
def Q.gM (q:Q) (k i j:Nat):Q × eG:=
 if k=1 then (q.ts i,{ iB with kd:=1,rq:=q.gO i })
 else if k=2 then (q.gid.1,{ iB with kd:=2,icl:=q.gid.2.1,inu:=q.gid.2.2 })
 else if k=3 then ((q.a7 i j).1,{ iB with kd:=3,an:=q.pE i j })
 else if k=4 then (q.mb.1,{ iB with kd:=4,icl:=q.gid.2.1,inu:=q.gid.2.2,co:=q.mb.2 })
 else if k=5 then ((q.v5 i).1,{ iB with kd:=5,ev:=q.tc i })
 else if k=6 then ((q.cf df 4).1,{ iB with kd:=6,le:=(q.cf df 4).2 })
 else (q,{ iB with kd:=k })
def Q.iP (q:Q) (i j:Nat):Q × eG:=q.zj.gM q.m1.2 i j
def Q.CO (q:Q) (k i j:Nat):Prop:=(k=1→q.th i)∧(k=3→q.C6 i j)∧(k=5→q.v2.1.th i)
theorem QL.message {a b:Q} (h:QL a b) (i j:Nat) (hok:a.zj.CO a.m1.2 i j):∃ b' v',(CS.rd b).dr iB=(.rd b',v')∧QL (a.iP i j).1 b'∧((a.iP i j).1.f=none→v'=(a.iP i j).2):=by
 have hb:iB.beside=false:=by decide +kernel
 obtain ⟨b1,e1,h1⟩:=h.u8 bq [bL 1 7 5,hJ false] iB.kd (bL 1 7 5 a.m1.2) (by
  show bL 1 7 5 a.m1.2=fb [bL 1 7 5,hJ false] a.m1.2
  simp only [fb,hJ]
  split <;> simp_all)
 have h1:QL a.zj b1:=h1
 unfold CS.dr CS.m1
 rw [hb,e1]
 dsimp only
 have ek:(a.cf bq 1).2=a.m1.2:=rfl
 rw [ek]
 unfold Q.iP
 generalize a.m1.2=k at *
 generalize a.zj=c at *
 obtain ⟨o1,o3,o5⟩:=hok
 unfold CS.pM Q.gM
 by_cases k1:k=1
 ·rw [if_pos k1,if_pos k1]
  obtain ⟨b2,v2,e2,h2,hv⟩:=h1.request i (o1 k1)
  refine ⟨b2,{ iB with kd:=1,rq:=v2 },?_,h2,fun hf=>by rw [hv hf]⟩
  have e2':(CS.rd b1).bw iB.rq=(.rd b2,v2):=e2
  rw [e2']
 rw [if_neg k1,if_neg k1]
 by_cases k2:k=2
 ·rw [if_pos k2,if_pos k2]
  obtain ⟨b2,e2,h2⟩:=h1.id (iB.icl,iB.inu)
  refine ⟨b2,_,?_,h2,fun hf=>rfl⟩
  rw [e2]
 rw [if_neg k2,if_neg k2]
 by_cases k3:k=3
 ·rw [if_pos k3,if_pos k3]
  obtain ⟨b2,v2,e2,h2,hv⟩:=h1.answer i j (o3 k3)
  refine ⟨b2,{ iB with kd:=3,an:=v2 },?_,h2,fun hf=>by rw [hv hf]⟩
  have e2':(CS.rd b1).bK iB.an=(.rd b2,v2):=e2
  rw [e2']
 rw [if_neg k3,if_neg k3]
 by_cases k4:k=4
 ·rw [if_pos k4,if_pos k4]
  obtain ⟨b2,e2,h2⟩:=h1.id (iB.icl,iB.inu)
  obtain ⟨b3,e3,h3⟩:=h2.u8 ff [bL 1 15 4] iB.co (bL 1 15 4 (c.gid.1.cf ff 1).2) (uI _ _ _ _).symm
  refine ⟨b3,_,?_,h3,fun hf=>rfl⟩
  rw [e2]
  dsimp only
  rw [e3]
  rfl
 rw [if_neg k4,if_neg k4]
 by_cases k5:k=5
 ·rw [if_pos k5,if_pos k5]
  obtain ⟨b2,v2,e2,h2,hv⟩:=h1.event i (o5 k5)
  refine ⟨b2,{ iB with kd:=5,ev:=v2 },?_,h2,fun hf=>by rw [hv hf]⟩
  have e2':(CS.rd b1).bO iB.ev=(.rd b2,v2):=e2
  rw [e2']
 rw [if_neg k5,if_neg k5]
 by_cases k6:k=6
 ·rw [if_pos k6,if_pos k6]
  obtain ⟨b2,e2,h2⟩:=h1.u32 df [] iB.le 0 rfl
  rw [Q.bh] at h2
  refine ⟨b2,_,?_,h2,fun hf=>rfl⟩
  rw [e2]
 rw [if_neg k6,if_neg k6]
 exact ⟨b1,_,rfl,h1,fun _=>rfl⟩
theorem eR (l:List Nat) (k:Nat):∃ b,(fm l).bf k = .rd b∧QL (Q.begun l k) b:=by
 obtain ⟨b,e,h⟩:=(QL.refl ⟨ByteArray.empty,l,0,0,none⟩).u8 cV [bL k k 5] k (if ((Q.mk ByteArray.empty l 0 0 none).cf cV 1).2=k then 0 else 5) (by
  rw [uI]
  generalize ((Q.mk ByteArray.empty l 0 0 none).cf cV 1).2=v
  unfold bL
  by_cases h:v=k
  ·rw [if_pos h,if_neg (by omega)]
  ·rw [if_neg h,if_pos (by omega)])
 refine ⟨b,?_,h⟩
 unfold CS.bf
 exact congrArg Prod.fst e
theorem QL.fin {a b:Q} (h:QL a b):(a.ah bt).ended=(CS.rd b).rq.fin:=by
 show (a.ah bt).ended=(b.named bt).ended
 by_cases hf:a.f=none
 ·obtain rfl:=h.eq hf
  unfold Q.ah
  rw [if_pos hf]
 ·have hb:(b.named bt).f≠none:=by show b.f≠none;rw [← h.f];exact hf
  unfold Q.ah Q.ended
  rw [if_neg hf,if_neg (fun h=>hf h.1),if_neg (fun h=>hb h.1)]
  show bo a.f=bo b.f
  rw [h.f]
structure HV where
 b:List Nat
 x:Value
structure HL (w:World) (base:Nat) (v:Value) (L:List HV):Prop where
 row:w.ownsRow base 23 1 v L.length (L.map HV.x)
 el:∀ q∈L,Src w q.x q.b∧∀ g o n c,q.x = .slice (some ⟨g,o,none⟩) (n+1) c→base≤g∧g<w.heap.size∧v.ownBlock≠some g
theorem Src.zH {w w':World} {x:Value} {l:List Nat} {S:Nat→Prop} (h:Src w x l) (hf:Fr S w w') (hS:∀ g o n c,x = .slice (some ⟨g,o,none⟩) (n+1) c→¬ S g):Src w' x l:=by
 rcases h with h|⟨g,o,c,hx,hc⟩|h
 ·exact .inl h
 ·cases l with
  | nil=>exact .inr (.inr ⟨_,c,hx,rfl⟩)
  | cons a r=>exact .inr (.inl ⟨g,o,c,hx,fun j v hv=>(hf.cell (p:=⟨g,o+j,none⟩) (ab (hc j v hv)) (hS g o _ c hx)).trans (hc j v hv)⟩)
 ·exact .inr (.inr h)
theorem HL.cO {w w':World} {base:Nat} {v:Value} {L:List HV} {S:Nat→Prop} (h:HL w base v L) (hf:Fr S w w') (hS:∀ k,S k→k<base∨w.heap.size≤k):HL w' base v L:=
 ⟨ay h.row (fun k hk=>hf.block k (h.row.lt k hk).2 (fun hx=>by have:=hS k hx;have:=h.row.lt k hk;omega)),fun q hq=>by
  obtain ⟨h1,h2⟩:=h.el q hq
  refine ⟨h1.zH hf (fun g o n c e hx=>by have:=hS g hx;have:=h2 g o n c e;omega),fun g o n c e=>?_⟩
  obtain ⟨a,b,c'⟩:=h2 g o n c e
  exact ⟨a,Nat.lt_of_lt_of_le b hf.size,c'⟩⟩
theorem HL.base {w:World} {base base':Nat} {v:Value} {L:List HV} (h:HL w base v L) (hb:base'≤base):HL w base' v L:=⟨aK h.row hb,fun q hq=>⟨(h.el q hq).1,fun g o n c e=>by
 obtain ⟨a,b,c'⟩:=(h.el q hq).2 g o n c e
 exact ⟨by omega,b,c'⟩⟩⟩
theorem HL.nil (w:World) (base:Nat):HL w base (.slice none 0 0) []:=⟨World.ownsRow_nil _ _ _ _,fun q hq=>by simp at hq⟩
theorem HL.form {w:World} {base:Nat} {v:Value} {L:List HV} (h:HL w base v L):∃ ao cap,v = .slice ao L.length cap:=dc h.row
theorem HL.one {w:World} {base:Nat} {v:Value} {L:List HV} (h:HL w base v L):∀ q∈L,q.x.oneCell'=true:=fun q hq=>by
 obtain ⟨xo,xc,e⟩:=(h.el q hq).1.form
 rw [e]
 rfl
theorem HL.add {w:World} {base:Nat} {v:Value} {L:List HV} (h:HL w base v L) (hb:base≤w.heap.size) (q:HV) (hq:Src w q.x q.b) (hlt:∀ g o n c,q.x = .slice (some ⟨g,o,none⟩) (n+1) c→base≤g∧g<w.heap.size∧v.ownBlock≠some g) (hn:L.length≤1000000) :
  ∃ ao cap w',(Builtin.append_ #[38,38] 38 #[v,.slice (some ⟨w.heap.size,0,none⟩) 1 1]).run Tryz.prog (w.alloc (.cells #[q.x] 23)) = .ok (.slice ao (L.length+1) cap) w'∧HL w' base (.slice ao (L.length+1) cap) (L++[q])∧Fr (fun g=>v.ownBlock=some g) w w':=by
 obtain ⟨i0,hi,hz0,hz1,hz2⟩:=info_parts Tryz.AJ
 have hbx:=aB w (.cells #[q.x] 23)
 have hsz:(w.alloc (.cells #[q.x] 23)).heap.size=w.heap.size+1:=by simp
 have hA:=h.cO hbx (fun _ h=>h.elim)
 have hone:q.x.oneCell'=true:=by
  obtain ⟨xo,xc,e⟩:=hq.form
  rw [e]
  rfl
 obtain ⟨v',w',hr,h2,h3,_,h5⟩:=run_append_own_at (P:=Tryz.prog) (w:=w.alloc (.cells #[q.x] 23)) base 38 38 23 i0 (.slice none 0 0) 1 24 Tryz.underlying38 hi hz0 hz1 hz2 rfl (by decide) v L.length _ hA.row ⟨w.heap.size,0,none⟩ 1 1 [q.x] rfl (fun j u hu=>by
  rw [addr_add,World.cell?_alloc_at _ _ _ _ rfl];simpa using hu) (fun u hu=>by simp at hu;subst hu;exact hone) (by simp only [maxLen];omega) (by omega) (by omega)
 obtain ⟨ao,cap,rfl⟩:=dc h2
 have hf:Fr (fun g=>v.ownBlock=some g) (w.alloc (.cells #[q.x] 23)) w':=(Fr.refl _ _).grown h3 (fun g hg=>.inl hg)
 have hff:Fr (fun g=>v.ownBlock=some g) w w':=(hbx.mono (fun _ _ h=>h.elim)).trans hf (fun _ _ h=>h)
 refine ⟨ao,cap,w',hr,⟨by rw [List.map_append,List.length_append];exact h2,fun p hp=>?_⟩,hff⟩
 have hp':Src w p.x p.b∧∀ g o n c,p.x = .slice (some ⟨g,o,none⟩) (n+1) c→base≤g∧g<w.heap.size∧v.ownBlock≠some g:=by
  rcases List.mem_append.1 hp with hp|hp
  ·exact h.el p hp
  ·rw [List.mem_singleton] at hp
   subst hp
   exact ⟨hq,hlt⟩
 refine ⟨hp'.1.zH hff (fun g o n c e=>(hp'.2 g o n c e).2.2),fun g o n c e=>?_⟩
 obtain ⟨a,b,c'⟩:=hp'.2 g o n c e
 refine ⟨a,Nat.lt_of_lt_of_le b hff.size,fun hx=>?_⟩
 rcases h5 with e5|e5
 ·rw [e5] at hx
  exact c' hx
 ·rw [e5] at hx
  simp only [Option.some.injEq] at hx
  omega
def vy (l:List Nat) (w:World) (vs:List Value):Prop:=∃ y z,vs=bd 17 ((aS l).2.aF y z).toList∧kE w y (aS l).2.rq.fs∧Src w z (aS l).2.dg∧(aS l).2.dg.length≤140737488355328
def yO (l:List Nat) (w:World) (vs:List Value):Prop:=∃ y,vs=bd 30 [.int .u32 ((bP l).2.1:Nat),y]∧Src w y (bP l).2.2∧(bP l).2.2.length≤140737488355328
def ql (l:List Nat) (w:World) (vs:List Value):Prop:=∃ y z,vs=bd 32 [.int .u32 ((aC l).2.1.1:Nat),y,.int .u32 ((aC l).2.2.1:Nat),z]∧Src w y (aC l).2.1.2∧Src w z (aC l).2.2.2∧(aC l).2.1.2.length≤140737488355328∧(aC l).2.2.2.length≤140737488355328
def vF (l:List Nat) (w:World) (vs:List Value):Prop:=∃ (L:List HV) (po:Option Addr) (pc:Nat),vs=bd 36 [.slice po L.length pc]∧L.map HV.b=(bG l).2∧∀ (j:Nat) (q:HV),L[j]?=some q→q.b.length≤140737488355328∧∃ g o,po=some ⟨g,o,none⟩∧w.cell? ⟨g,o+j,none⟩=some q.x∧Src w q.x q.b
def m9 (l:List Nat) (w:World) (vs:List Value):Prop:=∃ y0 y1 y2 y3 y4,vs=bd 37 ((aG l).2.aF y0 y1 y2 y3 y4).toList∧kE w y0 (aG l).2.rq.fs∧kE w y1 (aG l).2.an.fs∧ym w y2 (aG l).2.an.hi∧kE w y3 (aG l).2.ev.rq.fs∧Src w y4 (aG l).2.ev.dg∧(aG l).2.ev.dg.length≤140737488355328
def DK (k:Nat) (l:List Nat) (w:World) (vs:List Value):Prop:=
 if k=1 then gv l w vs else if k=2 then jd l w vs else if k=3 then vy l w vs else if k=4 then yO l w vs else if k=5 then ql l w vs else if k=6 then vF l w vs else m9 l w vs
theorem dN {w w1:World} {x:Value} {l:List Nat} (h:Src w x l) (hf:Fr (fun _=>False) w w1):Src w1 x l:=h.fr hf (fun _ _ _ _ _ h=>h)
theorem sD {l:List Nat} {w:World} {va vb:List Value} (ha:gv l w va) (hb:gv l w vb) :
  Calls Tryz.prog 18 #[.agg va.toArray,.agg vb.toArray] w fun e w'=>e = .returned (.bool true)∧Fr (fun _=>False) w w':=by
 obtain ⟨y,rfl,hy⟩:=ha
 obtain ⟨x,rfl,hx⟩:=hb
 generalize (aN l).2=v at *
 exact gC _ _ 0 0 none none 0 0 (.slice none 0 0) (.slice none 0 0) w (by decide) rfl rfl rfl rfl rfl rfl (eK w) (jS rfl rfl (by decide) (fun U hU=>lR v y x U (hy.aE hU) (hx.aE hU))) (bF (of_decide_eq_true rfl) rfl (of_decide_eq_true rfl) (by decide) ef) (bF (of_decide_eq_true rfl) rfl (of_decide_eq_true rfl) (by decide) eV) (bF (of_decide_eq_true rfl) rfl (of_decide_eq_true rfl) (by decide) dA) (bF (of_decide_eq_true rfl) rfl (of_decide_eq_true rfl) (by decide) dA) (fun W _=>gr W) (bF (of_decide_eq_true rfl) rfl (of_decide_eq_true rfl) (by decide) eb)
theorem tw {l:List Nat} {w:World} {va vb:List Value} (ha:jd l w va) (hb:jd l w vb) :
  Calls Tryz.prog 18 #[.agg va.toArray,.agg vb.toArray] w fun e w'=>e = .returned (.bool true)∧Fr (fun _=>False) w w':=by
 obtain ⟨y,z,rfl,hy,hz⟩:=ha
 obtain ⟨x,p,rfl,hx,hp⟩:=hb
 generalize (aM l).2=v at *
 exact gC _ _ 0 0 none none 0 0 (.slice none 0 0) (.slice none 0 0) w (by decide) rfl rfl rfl rfl rfl rfl (eK w) (bF (of_decide_eq_true rfl) rfl (of_decide_eq_true rfl) (by decide) dF) (jS rfl rfl (by decide) (fun U hU=>sR v y x z p U (hy.aE hU) (hx.aE hU) (hz.aE hU) (hp.aE hU))) (bF (of_decide_eq_true rfl) rfl (of_decide_eq_true rfl) (by decide) eV) (bF (of_decide_eq_true rfl) rfl (of_decide_eq_true rfl) (by decide) dA) (bF (of_decide_eq_true rfl) rfl (of_decide_eq_true rfl) (by decide) dA) (fun W _=>gr W) (bF (of_decide_eq_true rfl) rfl (of_decide_eq_true rfl) (by decide) eb)
theorem yf {l:List Nat} {w:World} {va vb:List Value} (ha:uZ l w va) (hb:vy l w vb) :
  Calls Tryz.prog 18 #[.agg va.toArray,.agg vb.toArray] w fun e w'=>e = .returned (.bool true)∧Fr (fun _=>False) w w':=by
 obtain ⟨y,z,rfl,hy,hz⟩:=ha
 obtain ⟨x,p,rfl,hx,hp,hl⟩:=hb
 generalize (aS l).2=v at *
 exact gC _ _ 0 0 none none 0 0 (.slice none 0 0) (.slice none 0 0) w (by decide) rfl rfl rfl rfl rfl rfl (eK w) (bF (of_decide_eq_true rfl) rfl (of_decide_eq_true rfl) (by decide) dF) (bF (of_decide_eq_true rfl) rfl (of_decide_eq_true rfl) (by decide) ef) (jS rfl rfl (by decide) (fun U hU=>nt v v.dg y x z p U (hy.aE hU) (hx.aE hU) (hz.aE hU).src (dN hp hU) rfl hl)) (bF (of_decide_eq_true rfl) rfl (of_decide_eq_true rfl) (by decide) dA) (bF (of_decide_eq_true rfl) rfl (of_decide_eq_true rfl) (by decide) dA) (fun W _=>gr W) (bF (of_decide_eq_true rfl) rfl (of_decide_eq_true rfl) (by decide) eb)
theorem zf {l:List Nat} {w:World} {va vb:List Value} (ha:AD l w va) (hb:yO l w vb) :
  Calls Tryz.prog 18 #[.agg va.toArray,.agg vb.toArray] w fun e w'=>e = .returned (.bool true)∧Fr (fun _=>False) w w':=by
 obtain ⟨y,rfl,hy⟩:=ha
 obtain ⟨x,rfl,hx,hl⟩:=hb
 generalize (bP l).2.1=n at *
 generalize (bP l).2.2=r at *
 exact gC _ _ 0 0 none none 0 0 (.slice none 0 0) (.slice none 0 0) w (by decide) rfl rfl rfl rfl rfl rfl (eK w) (bF (of_decide_eq_true rfl) rfl (of_decide_eq_true rfl) (by decide) dF) (bF (of_decide_eq_true rfl) rfl (of_decide_eq_true rfl) (by decide) ef) (bF (of_decide_eq_true rfl) rfl (of_decide_eq_true rfl) (by decide) eV) (jS rfl rfl (by decide) (fun U hU=>pg n y x r r U (hy.aE hU).src (dN hx hU) rfl hl)) (bF (of_decide_eq_true rfl) rfl (of_decide_eq_true rfl) (by decide) dA) (fun W _=>gr W) (bF (of_decide_eq_true rfl) rfl (of_decide_eq_true rfl) (by decide) eb)
theorem vS {l:List Nat} {w:World} {va vb:List Value} (ha:pP l w va) (hb:ql l w vb) :
  Calls Tryz.prog 18 #[.agg va.toArray,.agg vb.toArray] w fun e w'=>e = .returned (.bool true)∧Fr (fun _=>False) w w':=by
 obtain ⟨y,z,rfl,hy,hz⟩:=ha
 obtain ⟨x,p,rfl,hx,hp,hl,hl2⟩:=hb
 generalize (aC l).2.1.1=n at *
 generalize (aC l).2.1.2=r at *
 generalize (aC l).2.2.1=k at *
 generalize (aC l).2.2.2=g at *
 exact gC _ _ 0 k none none 0 0 z p w (by decide) rfl rfl rfl rfl rfl rfl (eK w) (bF (of_decide_eq_true rfl) rfl (of_decide_eq_true rfl) (by decide) dF) (bF (of_decide_eq_true rfl) rfl (of_decide_eq_true rfl) (by decide) ef) (bF (of_decide_eq_true rfl) rfl (of_decide_eq_true rfl) (by decide) eV) (bF (of_decide_eq_true rfl) rfl (of_decide_eq_true rfl) (by decide) dA) ⟨⟨[.int .u32 (n:Nat),y],[.int .u32 (n:Nat),x],rfl,rfl,rfl,rfl,fun U hU=>pg n y x r r U (hy.aE hU).src (dN hx hU) rfl hl⟩⟩ (fun U hU=>jX z p g g U (hz.aE hU).src (dN hp hU) rfl hl2) (bF (of_decide_eq_true rfl) rfl (of_decide_eq_true rfl) (by decide) eb)
theorem xS {l:List Nat} {w:World} {va vb:List Value} (ha:vm l w va) (hb:vF l w vb) :
  Calls Tryz.prog 18 #[.agg va.toArray,.agg vb.toArray] w fun e w'=>e = .returned (.bool true)∧Fr (fun _=>False) w w':=by
 obtain ⟨po,pc,rfl,hy⟩:=ha
 obtain ⟨L,xo,xc,rfl,hm,hL⟩:=hb
 have hln:L.length=(bG l).2.length:=by rw [← hm,List.length_map]
 have hP:Twins w (bG l).2.length po xo:=⟨fun j hj=>by
  have j1:(bG l).2[j]?=some ((bG l).2[j]'hj):=List.getElem?_eq_getElem hj
  have j2:L[j]?=some (L[j]'(by rw [hln];exact hj)):=List.getElem?_eq_getElem _
  generalize (bG l).2[j]'hj=p at j1
  generalize L[j]'(by rw [hln];exact hj)=q at j2
  obtain ⟨hq,g2,o2,e2,c2,s2⟩:=hL j q j2
  obtain ⟨g1,o1,x1,e1,c1,s1⟩:=hy.el j p j1
  have hpq:q.b=p:=by
   have h3:(L.map HV.b)[j]?=some q.b:=by rw [List.getElem?_map,j2];rfl
   rw [hm,j1] at h3
   exact (Option.some.inj h3).symm
  subst hpq
  obtain ⟨a2,m2,ex2⟩:=s2.form
  obtain ⟨a1,m1,rfl⟩:=s1.src.form
  rw [ex2] at c2 s2
  exact ⟨g1,o1,g2,o2,a1,_,m1,a2,_,m2,e1,e2,c1,c2,fun U hU=>jX _ _ _ _ U (s1.aE hU).src (dN s2 hU) rfl hq⟩⟩
 have hlen:=hy.len
 rw [hln]
 generalize (bG l).2.length=N at *
 exact gC _ _ N 0 po xo pc xc (.slice none 0 0) (.slice none 0 0) w hlen rfl rfl rfl rfl rfl rfl hP (bF (of_decide_eq_true rfl) rfl (of_decide_eq_true rfl) (by decide) dF) (bF (of_decide_eq_true rfl) rfl (of_decide_eq_true rfl) (by decide) ef) (bF (of_decide_eq_true rfl) rfl (of_decide_eq_true rfl) (by decide) eV) (bF (of_decide_eq_true rfl) rfl (of_decide_eq_true rfl) (by decide) dA) (bF (of_decide_eq_true rfl) rfl (of_decide_eq_true rfl) (by decide) dA) (fun W _=>gr W) (bF (of_decide_eq_true rfl) rfl (of_decide_eq_true rfl) (by decide) eb)
theorem rl {l:List Nat} {w:World} {va vb:List Value} (ha:lY l w va) (hb:m9 l w vb) :
  Calls Tryz.prog 18 #[.agg va.toArray,.agg vb.toArray] w fun e w'=>e = .returned (.bool true)∧Fr (fun _=>False) w w':=by
 obtain ⟨y0,y1,y2,y3,y4,rfl,i0,i1,i2,i3,i4⟩:=ha
 obtain ⟨x0,x1,x2,x3,x4,rfl,j0,j1,j2,j3,j4,hl⟩:=hb
 generalize (aG l).2=v at *
 have hmsg:∀ U,Fr (fun _=>False) w U→Calls Tryz.prog 44 #[.agg (v.aF y0 y1 y2 y3 y4).toList.toArray,.agg (v.aF x0 x1 x2 x3 x4).toList.toArray] U fun e w'=>e = .returned (.bool true)∧Fr (fun _=>False) U w':=fun U hU=>by
  have tr:∀ {a b c:World},Fr (fun _=>False) a b→Fr (fun _=>False) b c→Fr (fun _=>False) a c:=fun h1 h2=>h1.trans h2 (fun _ _ h=>h)
  exact vw _ _ v.kd v.icl v.inu v.co v.le U rfl rfl rfl rfl rfl rfl rfl rfl rfl rfl
   ⟨⟨(v.rq.aF y0).toList,(v.rq.aF x0).toList,rfl,rfl,rfl,rfl,fun S hS=>lR v.rq y0 x0 S (i0.aE (tr hU hS)) (j0.aE (tr hU hS))⟩⟩
   ⟨⟨(v.an.aF y1 y2).toList,(v.an.aF x1 x2).toList,rfl,rfl,rfl,rfl,fun S hS=>sR v.an y1 x1 y2 x2 S (i1.aE (tr hU hS)) (j1.aE (tr hU hS)) (i2.aE (tr hU hS)) (j2.aE (tr hU hS))⟩⟩
   ⟨⟨(v.ev.aF y3 y4).toList,(v.ev.aF x3 x4).toList,rfl,rfl,rfl,rfl,fun S hS=>nt v.ev v.ev.dg y3 x3 y4 x4 S (i3.aE (tr hU hS)) (j3.aE (tr hU hS)) (i4.aE (tr hU hS)).src (dN j4 (tr hU hS)) rfl hl⟩⟩
 exact gC _ _ 0 0 none none 0 0 (.slice none 0 0) (.slice none 0 0) w (by decide) rfl rfl rfl rfl rfl rfl (eK w) (bF (of_decide_eq_true rfl) rfl (of_decide_eq_true rfl) (by decide) dF) (bF (of_decide_eq_true rfl) rfl (of_decide_eq_true rfl) (by decide) ef) (bF (of_decide_eq_true rfl) rfl (of_decide_eq_true rfl) (by decide) eV) (bF (of_decide_eq_true rfl) rfl (of_decide_eq_true rfl) (by decide) dA) (bF (of_decide_eq_true rfl) rfl (of_decide_eq_true rfl) (by decide) dA) (fun W _=>gr W) (jS rfl rfl (by decide) (fun U hU=>hmsg U hU))
theorem Cu (k:Nat) (h1:1≤k) (h7:k≤7) {l:List Nat} {w:World} {va vb:List Value} (ha:VK k l w va) (hb:DK k l w vb) :
  Calls Tryz.prog 18 #[.agg va.toArray,.agg vb.toArray] w fun e w'=>e = .returned (.bool true)∧Fr (fun _=>False) w w':=by
 rcases (by omega:k=1∨k=2∨k=3∨k=4∨k=5∨k=6∨k=7) with rfl|rfl|rfl|rfl|rfl|rfl|rfl
 ·exact sD (by simpa [VK] using ha) (by simpa [DK] using hb)
 ·exact tw (by simpa [VK] using ha) (by simpa [DK] using hb)
 ·exact yf (by simpa [VK] using ha) (by simpa [DK] using hb)
 ·exact zf (by simpa [VK] using ha) (by simpa [DK] using hb)
 ·exact vS (by simpa [VK] using ha) (by simpa [DK] using hb)
 ·exact xS (by simpa [VK] using ha) (by simpa [DK] using hb)
 ·exact rl (by simpa [VK] using ha) (by simpa [DK] using hb)
end Go.Proofs.YtdcopmkgmbiikaaGreatDoor
