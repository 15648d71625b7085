import Derived.Test.YtdcopmkgmbiikaaGreatDoorPg8
import Derived.Test.YtdcopmkgmbiikaaGreatDoorPg4
import Derived.Test.YtdcopmkgmbiikaaGreatDoorPg6
import Derived.Maps.AppendAt
import Derived.Deep.MidRow
import Derived.Test.YtdcopmkgmbiikaaGreatDoorPg2
import Derived.Deep.CutRange
import Derived.Test.YtdcopmkgmbiikaaGreatDoorKTld
import Derived.Test.YtdcopmkgmbiikaaGreatDoorKSen
import Derived.Test.YtdcopmkgmbiikaaGreatDoorKCnt
import Derived.Deep.Slices
import Derived.Deep.DeepHandedRow
import Derived.Deep.DeepWitnessRowRef
import Derived.LaidHandle
import Derived.Test.YtdcopmkgmbiikaaGreatDoorCards
import Derived.Test.YtdcopmkgmbiikaaGreatDoorTie
set_option maxRecDepth 100000
set_option maxHeartbeats 8000000
set_option linter.unusedSimpArgs false
namespace Go.Proofs.YtdcopmkgmbiikaaGreatDoor
open Go.RowKit
def Q.gl {α:Type} (g:Q→Q × α) (q:Q):Nat→Q × List α
 | 0=>(q,[])
 | n+1=>((g (Q.gl g q n).1).1,(Q.gl g q n).2++[(g (Q.gl g q n).1).2])
theorem Q.Ar {α:Type} (g:Q→Q × α) (q:Q) (n:Nat):(Q.gl g q n).2.length=n:=by
 induction n with
 | zero=>rfl
 | succ n ih=>simp[Q.gl,ih]
structure gH {α:Type} (each:CS→α→CS × α) (z:α) (g:Q→Q × α):Prop where
 fl:∀ (c:CS) (v:α),c.later (each c v).1
 fg:∀ {a b:Q},QL a b→∃ b' v,each (.rd b) z=(.rd b',v)∧QL (g a).1 b'∧((g a).1.f=none→v=(g a).2)
 fz:∀ q:Q,(g q).1.f=none→q.f=none
theorem gH.loop {α:Type} {each:CS→α→CS × α} {z:α} {g:Q→Q × α} (H:gH each z g) {a b:Q} (h:QL a b):∀ n,∃ b' l',bt each z n (.rd b)=(.rd b',l')∧QL (Q.gl g a n).1 b'∧((Q.gl g a n).1.f=none→l'=(Q.gl g a n).2):=by
 intro n
 induction n with
 | zero=>exact⟨b,[],rfl,h,fun _=>rfl⟩
 | succ n ih =>
  obtain⟨b1,l1,e1,h1,v1⟩:=ih
  obtain⟨b2,v,e2,h2,v2⟩:=H.fg h1
  refine⟨b2,l1++[v],?_,h2,fun hf=>?_⟩
  ·simp only[bt]
   rw[e1]
   dsimp only
   rw[e2]
  ·have hf2:(g (Q.gl g a n).1).1.f=none:=hf
   rw[v1 (H.fz _ hf2),v2 hf2]
   rfl
theorem gH.CO {α:Type} {each:CS→α→CS × α} {z:α} {g:Q→Q × α} (H:gH each z g) (q:Q) (hq:q.f≠none):(g q).1.f=q.f∧(g q).1.all=q.all:=by
 obtain⟨b',v,e,h,_⟩:=H.fg (QL.refl q)
 have hl:=H.fl (.rd q) z
 rw[e] at hl
 obtain⟨x,hx⟩:=Option.ne_none_iff_exists'.1 hq
 exact⟨by rw[h.f,hx];exact hl.2 x hx,by rw[h.all];exact hl.1⟩
theorem gH.stuck {α:Type} {each:CS→α→CS × α} {z:α} {g:Q→Q × α} (H:gH each z g) (a:Q) (i:Nat) (hf:(Q.gl g a i).1.f≠none):∀ k,(Q.gl g a (i+k)).1.f=(Q.gl g a i).1.f∧(Q.gl g a (i+k)).1.all=(Q.gl g a i).1.all:=by
 intro k
 induction k with
 | zero=>exact⟨rfl,rfl⟩
 | succ k ih =>
  have h:=H.CO (Q.gl g a (i+k)).1 (by rw[ih.1];exact hf)
  exact⟨h.1.trans ih.1,h.2.trans ih.2⟩
theorem gH.z0 {α:Type} {each:CS→α→CS × α} {z:α} {g:Q→Q × α} (H:gH each z g) (a:Q) (i:Nat) (h:(Q.gl g a i).1.f=none):a.f=none:=by
 by_cases hf:a.f=none
 ·exact hf
 ·have:=(H.stuck a 0 hf i).1
  rw[Nat.zero_add] at this
  rw[this] at h
  exact absurd h hf
theorem gH.rounds {α:Type} {each:CS→α→CS × α} {z:α} {g:Q→Q × α} (H:gH each z g) {a b:Q} (h:QL a b) (i n:Nat) (hin:i≤n) (hi:i=n∨(Q.gl g a i).1.f≠none):∃ b' l',bt each z n (.rd b)=(.rd b',l')∧QL (Q.gl g a i).1 b'∧((Q.gl g a i).1.f=none→l'=(Q.gl g a i).2):=by
 obtain⟨b',l',e,hq,hv⟩:=H.loop h n
 rcases hi with rfl|hf
 ·exact⟨b',l',e,hq,hv⟩
 ·obtain⟨k,rfl⟩:∃ k,n=i+k:=⟨n - i,by omega⟩
  obtain⟨h1,h2⟩:=H.stuck a i hf k
  exact⟨b',l',e,⟨by rw[← h2,hq.all],by rw[← h1,hq.f],fun hx=>absurd hx hf⟩,fun hx=>absurd hx hf⟩
def Q.s2 (q:Q):Q × Nat:=(q.bV eI 4).1.bV iE 4
def Q.s3 (q:Q):Q × Nat:=q.s2.1.bV kq 4
def Q.s4 (q:Q):Q × Nat:=q.s3.1.bV jq 1
def Q.jx (q:Q):Q × dG:=(q.s4.1.ah (if 1<q.s4.2 then 4 else 0),⟨(q.bV eI 4).2,q.s2.2,q.s3.2,((q.s4.2:Nat):Int) == 1⟩)
theorem vm (lo hi n k:Nat):fb [bI lo hi n] k=bI lo hi n k:=by
 simp only[fb]
 split <;> simp_all
theorem oA:gH (fun c v=>CS.aG c v) ie Q.jx:=by
 refine⟨fun c v=>fX c v,fun {a b} h=>?_,fun q hf=>?_⟩
 ·obtain⟨b1,e1,h1⟩:=h.u32 eI [] ie.au 0 rfl
  rw[Q.aZ] at h1
  obtain⟨b2,e2,h2⟩:=h1.u32 iE [] ie.ev 0 rfl
  rw[Q.aZ] at h2
  have h2:QL a.s2.1 b2:=h2
  obtain⟨b3,e3,h3⟩:=h2.u32 kq [] ie.fi 0 rfl
  rw[Q.aZ] at h3
  have h3:QL a.s3.1 b3:=h3
  obtain⟨b4,e4,h4⟩:=h3.u8 jq [bI 0 1 4] ie.gone (if 1<a.s4.2 then 4 else 0) (by
   show(if 1<a.s4.2 then 4 else 0)=fb [bI 0 1 4] a.s4.2
   rw[vm]
   generalize a.s4.2=k
   unfold bI
   by_cases hk:1<k
   ·rw[if_pos hk,if_pos (.inr hk)]
   ·rw[if_neg hk,if_neg (by omega)])
  have h4:QL a.jx.1 b4:=h4
  have q1:(CS.rd b).s1 ie=(.rd b1,(a.bV eI 4).2):=e1
  have q2:(CS.rd b).s2 ie=(.rd b2,a.s2.2):=by unfold CS.s2;rw[q1];exact e2
  have q3:(CS.rd b).s3 ie=(.rd b3,a.s3.2):=by unfold CS.s3;rw[q2];exact e3
  have q4:(CS.rd b).s4 ie=(.rd b4,a.s4.2):=by unfold CS.s4;rw[q3];exact e4
  refine⟨b4,a.jx.2,?_,h4,fun _=>rfl⟩
  show CS.aG (.rd b) ie=_
  unfold CS.aG
  rw[q1,q2,q3,q4]
  rfl
 ·exact Q.kv (by decide) (Q.kv (by decide) (Q.kv (by decide) (Q.kv (by decide) (Q.eK hf).1)))
def Q.AD (q:Q):Q × List Nat:=q.many bl 1 32
theorem QL.hash {a b:Q} (h:QL a b) (nm:ByteArray) (v:List Nat):∃ b',(CS.rd b).bM nm v=(.rd b',(a.many nm 1 32).2)∧QL (a.many nm 1 32).1 b':=by
 have hmx:(a.many nm 1 32).2.length≤32:=a.dt nm 1 32
 obtain⟨b4,e4,h4⟩:=h.DB nm 1 32 [fun v=>dj 1 32 v.length] v 0 (fun hf=>by
  have hlo:=Q.pO hf
  have hz:dj 1 32 (a.many nm 1 32).2.length=0:=by
   unfold dj
   rw[if_neg (by omega),if_neg (by omega)]
  simp only[fb]
  rw[if_pos hz]) (fun hl=>by
  have hz:dj 1 32 (a.many nm 1 32).2.length=4:=by
   unfold dj
   rw[if_neg (by omega),if_pos hl]
  simp only[fb]
  rw[if_neg (by rw[hz];decide)]
  exact hz)
 rw[Q.aZ] at h4
 exact⟨b4,e4,h4⟩
theorem sX:gH (fun c v=>CS.bM c bl v) [] Q.AD:=by
 refine⟨fun c v=>fC c bl v,fun {a b} h=>?_,fun q hf=>Q.pV hf⟩
 obtain⟨b1,e1,h1⟩:=h.hash bl []
 exact⟨b1,_,e1,h1,fun _=>rfl⟩
def Q.a2 (q:Q):Q × Nat:=q.gid.1.gn
def Q.a3 (q:Q):Q × Nat:=q.a2.1.bV cS 4
def Q.a4 (q:Q):Q × Nat:=q.a3.1.bV cg 4
def Q.a5 (q:Q) (i:Nat):Q × List cA × ByteArray:=(q.a4.1.bu true).dT false i
def Q.a6 (q:Q) (i:Nat):Q × Nat:=(q.a5 i).1.bT aP 64
def Q.a7 (q:Q) (i j:Nat):Q × List dG:=Q.gl Q.jx (q.a6 i).1 j
def Q.qC (q:Q) (i j:Nat):hI:=⟨q.gid.2.1,q.gid.2.2,q.a2.2,q.a3.2,q.a4.2,(q.a5 i).2.1,(q.a7 i j).2⟩
def Q.CT (q:Q) (i j:Nat):Prop:=(i≤(q.a4.1.bT ak 32).2∧(i=(q.a4.1.bT ak 32).2∨(q.a5 i).1.f≠none))∧j≤(q.a6 i).2∧(j=(q.a6 i).2∨(q.a7 i j).1.f≠none)
theorem qe (n m:Nat) (h:n≤m):fb (eA (m:Nat) []) ((n:Nat):Int)=0:=by
 have hz:lT 0 (m:Nat) 2 ((n:Nat):Int)=0:=by
  unfold lT
  rw[if_neg (by omega)]
 unfold eA
 simp only[fb]
 rw[if_pos hz]
theorem QL.answer {a b:Q} (h:QL a b) (i j:Nat) (hok:a.CT i j):∃ b' v',(CS.rd b).bF rF=(.rd b',v')∧QL (a.a7 i j).1 b'∧((a.a7 i j).1.f=none→v'=a.qC i j):=by
 obtain⟨b1,e1,h1⟩:=h.id (rF.cl,rF.nu)
 obtain⟨b2,e2,h2⟩:=h1.code rF.co
 have h2:QL a.a2.1 b2:=h2
 obtain⟨b3,e3,h3⟩:=h2.u32 cS [] rF.re 0 rfl
 rw[Q.aZ] at h3
 have h3:QL a.a3.1 b3:=h3
 obtain⟨b4,e4,h4⟩:=h3.u32 cg [] rF.ve 0 rfl
 rw[Q.aZ] at h4
 have h4:QL a.a4.1 b4:=h4
 obtain⟨b5,l5,e5,h5,hv5⟩:=h4.fields true false [] rF.fs (fun _=>by
  have hle:(a.a4.1.bT ak 32).2≤32:=Q.fe _ ak 32
  rw[if_neg (fun h=>by cases h.1)]
  exact(qe _ 32 hle).symm) i hok.1.1 hok.1.2
 have h5:QL (a.a5 i).1 b5:=h5
 have hle:(a.a6 i).2≤64:=Q.fe _ aP 64
 obtain⟨b6,e6,h6⟩:=h5.AJ aP 64 (eA 64 []) 0 0 (fun _=>(qe _ 64 hle).symm)
 rw[Q.aZ] at h6
 have h6:QL (a.a6 i).1 b6:=h6
 obtain⟨b7,l7,e7,h7,hv7⟩:=oA.rounds h6 j _ hok.2.1 hok.2.2
 have h7:QL (a.a7 i j).1 b7:=h7
 have ec:((b5.named aP).go 7 64).2.1=(a.a6 i).2:=(congrArg Prod.fst (h5.go aP 7 64 (by decide)).2).symm
 have q1:(CS.rd b).a1 rF=(.rd b1,a.gid.2):=e1
 have q2:(CS.rd b).a2 rF=(.rd b2,a.a2.2):=by unfold CS.a2;rw[q1];exact e2
 have q3:(CS.rd b).a3 rF=(.rd b3,a.a3.2):=by unfold CS.a3;rw[q2];exact e3
 have q4:(CS.rd b).a4 rF=(.rd b4,a.a4.2):=by unfold CS.a4;rw[q3];exact e4
 have q5:(CS.rd b).a5 rF=(.rd b5,l5):=by unfold CS.a5;rw[q4];exact e5
 have q6:(CS.rd b).a6 rF=(.rd b7,l7):=by
  unfold CS.a6
  rw[q5]
  unfold CS.mW
  dsimp only
  rw[ec,Nat.min_eq_left hle,e6]
  exact e7
 refine⟨b7,⟨a.gid.2.1,a.gid.2.2,a.a2.2,a.a3.2,a.a4.2,l5,l7⟩,?_,h7,fun hf=>?_⟩
 ·unfold CS.bF
  rw[q1,q2,q3,q4,q5,q6]
 ·have hf6:(a.a6 i).1.f=none:=oA.z0 _ j hf
  rw[hv5 (Q.AP hf6),hv7 hf]
  rfl
def Q.p1 (q:Q):Q × Nat:=q.bT cm 4096
def Q.p2 (q:Q) (j:Nat):Q × List (List Nat):=Q.gl Q.AD q.p1.1 j
def Q.Da (q:Q) (j:Nat):Prop:=j≤q.p1.2∧(j=q.p1.2∨(q.p2 j).1.f≠none)
theorem QL.proof {a b:Q} (h:QL a b) (j:Nat) (hok:a.Da j):∃ b' v',(CS.rd b).ga []=(.rd b',v')∧QL (a.p2 j).1 b'∧((a.p2 j).1.f=none→v'=(a.p2 j).2):=by
 have hle:a.p1.2≤4096:=Q.fe _ cm 4096
 obtain⟨b6,e6,h6⟩:=h.AJ cm (4096:Nat) (eA (4096:Nat) []) 0 0 (fun _=>(qe _ 4096 hle).symm)
 rw[Q.aZ] at h6
 have h6:QL a.p1.1 b6:=h6
 obtain⟨b7,l7,e7,h7,hv7⟩:=sX.rounds h6 j _ hok.1 hok.2
 have ec:((b.named cm).go 7 (4096:Nat)).2.1=a.p1.2:=(congrArg Prod.fst (h.go cm 7 (4096:Nat) (by decide)).2).symm
 refine⟨b7,l7,?_,h7,hv7⟩
 unfold CS.ga
 dsimp only
 rw[ec,Nat.min_eq_left hle,e6]
 exact e7
theorem QL.head {a b:Q} (h:QL a b):∃ b',(CS.rd b).dA (0,[])=(.rd b',a.cQ.2)∧QL a.cQ.1 b':=by
 obtain⟨b1,e1,h1⟩:=h.u32 dC [] 0 0 rfl
 rw[Q.aZ] at h1
 obtain⟨b2,e2,h2⟩:=h1.hash fZ []
 refine⟨b2,?_,h2⟩
 unfold CS.dA
 rw[e1]
 dsimp only
 rw[e2]
 rfl
theorem QL.signed {a b:Q} (h:QL a b):∃ b',(CS.rd b).cu ((0,[]),0,[])=(.rd b',a.bk.2)∧QL a.bk.1 b':=by
 obtain⟨b1,e1,h1⟩:=h.head
 obtain⟨b2,e2,h2⟩:=h1.u32 ey [] 0 0 rfl
 rw[Q.aZ] at h2
 have hmx:((a.cQ.1.bV ey 4).1.many bH 0 32768).2.length≤32768:=Q.dt _ bH 0 32768
 obtain⟨b3,e3,h3⟩:=h2.DB bH 0 32768 [fun v=>dj 0 32768 v.length] [] 0 (fun _=>by
  have hz:dj 0 32768 ((a.cQ.1.bV ey 4).1.many bH 0 32768).2.length=0:=by
   unfold dj
   rw[if_neg (by omega),if_neg (by omega)]
  simp only[fb]
  rw[if_pos hz]) (fun hl=>absurd hl (Int.not_lt.2 (Int.natCast_nonneg _)))
 rw[Q.aZ] at h3
 refine⟨b3,?_,h3⟩
 unfold CS.cu
 rw[e1]
 dsimp only
 rw[e2]
 dsimp only
 rw[e3]
 rfl
def Q.m1 (q:Q):Q × Nat:=q.bV bj 1
def Q.yN (q:Q):Q:=q.m1.1.ah (bI 1 7 5 q.m1.2)
def Q.mb (q:Q):Q × Nat:=((q.gid.1.bV eY 1).1.ah (bI 1 15 4 (q.gid.1.bV eY 1).2),(q.gid.1.bV eY 1).2)
def Q.gM (q:Q) (k i j:Nat):Q × eS:=
 if k=1 then (q.sQ i,{ ib with kd:=1,rq:=q.gK i })
 else if k=2 then (q.gid.1,{ ib with kd:=2,icl:=q.gid.2.1,inu:=q.gid.2.2 })
 else if k=3 then ((q.a7 i j).1,{ ib with kd:=3,an:=q.qC i j })
 else if k=4 then (q.mb.1,{ ib with kd:=4,icl:=q.gid.2.1,inu:=q.gid.2.2,co:=q.mb.2 })
 else if k=5 then ((q.v5 i).1,{ ib with kd:=5,ev:=q.sJ i })
 else if k=6 then ((q.bV cR 4).1,{ ib with kd:=6,le:=(q.bV cR 4).2 })
 else (q,{ ib with kd:=k })
def Q.iJ (q:Q) (i j:Nat):Q × eS:=q.yN.gM q.m1.2 i j
def Q.Cn (q:Q) (k i j:Nat):Prop:=(k=1→q.sP i)∧(k=3→q.CT i j)∧(k=5→q.v2.1.sP i)
theorem QL.message {a b:Q} (h:QL a b) (i j:Nat) (hok:a.yN.Cn a.m1.2 i j):∃ b' v',(CS.rd b).di ib=(.rd b',v')∧QL (a.iJ i j).1 b'∧((a.iJ i j).1.f=none→v'=(a.iJ i j).2):=by
 have hb:ib.beside=false:=by decide +kernel
 obtain⟨b1,e1,h1⟩:=h.u8 bj [bI 1 7 5,gQ false] ib.kd (bI 1 7 5 a.m1.2) (by
  show bI 1 7 5 a.m1.2=fb [bI 1 7 5,gQ false] a.m1.2
  simp only[fb,gQ]
  split <;> simp_all)
 have h1:QL a.yN b1:=h1
 unfold CS.di CS.m1
 rw[hb,e1]
 dsimp only
 have ek:(a.bV bj 1).2=a.m1.2:=rfl
 rw[ek]
 unfold Q.iJ
 generalize a.m1.2=k at *
 generalize a.yN=c at *
 obtain⟨o1,o3,o5⟩:=hok
 unfold CS.pM Q.gM
 by_cases k1:k=1
 ·rw[if_pos k1,if_pos k1]
  obtain⟨b2,v2,e2,h2,hv⟩:=h1.request i (o1 k1)
  refine⟨b2,{ ib with kd:=1,rq:=v2 },?_,h2,fun hf=>by rw[hv hf]⟩
  have e2':(CS.rd b1).bp ib.rq=(.rd b2,v2):=e2
  rw[e2']
 rw[if_neg k1,if_neg k1]
 by_cases k2:k=2
 ·rw[if_pos k2,if_pos k2]
  obtain⟨b2,e2,h2⟩:=h1.id (ib.icl,ib.inu)
  refine⟨b2,_,?_,h2,fun hf=>rfl⟩
  rw[e2]
 rw[if_neg k2,if_neg k2]
 by_cases k3:k=3
 ·rw[if_pos k3,if_pos k3]
  obtain⟨b2,v2,e2,h2,hv⟩:=h1.answer i j (o3 k3)
  refine⟨b2,{ ib with kd:=3,an:=v2 },?_,h2,fun hf=>by rw[hv hf]⟩
  have e2':(CS.rd b1).bF ib.an=(.rd b2,v2):=e2
  rw[e2']
 rw[if_neg k3,if_neg k3]
 by_cases k4:k=4
 ·rw[if_pos k4,if_pos k4]
  obtain⟨b2,e2,h2⟩:=h1.id (ib.icl,ib.inu)
  obtain⟨b3,e3,h3⟩:=h2.u8 eY [bI 1 15 4] ib.co (bI 1 15 4 (c.gid.1.bV eY 1).2) (vm _ _ _ _).symm
  refine⟨b3,_,?_,h3,fun hf=>rfl⟩
  rw[e2]
  dsimp only
  rw[e3]
  rfl
 rw[if_neg k4,if_neg k4]
 by_cases k5:k=5
 ·rw[if_pos k5,if_pos k5]
  obtain⟨b2,v2,e2,h2,hv⟩:=h1.event i (o5 k5)
  refine⟨b2,{ ib with kd:=5,ev:=v2 },?_,h2,fun hf=>by rw[hv hf]⟩
  have e2':(CS.rd b1).bJ ib.ev=(.rd b2,v2):=e2
  rw[e2']
 rw[if_neg k5,if_neg k5]
 by_cases k6:k=6
 ·rw[if_pos k6,if_pos k6]
  obtain⟨b2,e2,h2⟩:=h1.u32 cR [] ib.le 0 rfl
  rw[Q.aZ] at h2
  refine⟨b2,_,?_,h2,fun hf=>rfl⟩
  rw[e2]
 rw[if_neg k6,if_neg k6]
 exact⟨b1,_,rfl,h1,fun _=>rfl⟩
theorem eN (l:List Nat) (k:Nat):∃ b,(eU l).aX k = .rd b∧QL (Q.begun l k) b:=by
 obtain⟨b,e,h⟩:=(QL.refl ⟨ByteArray.empty,l,0,0,none⟩).u8 cP [bI k k 5] k (if ((Q.mk ByteArray.empty l 0 0 none).bV cP 1).2=k then 0 else 5) (by
  rw[vm]
  generalize ((Q.mk ByteArray.empty l 0 0 none).bV cP 1).2=v
  unfold bI
  by_cases h:v=k
  ·rw[if_pos h,if_neg (by omega)]
  ·rw[if_neg h,if_pos (by omega)])
 refine⟨b,?_,h⟩
 unfold CS.aX
 exact congrArg Prod.fst e
theorem QL.fin {a b:Q} (h:QL a b):(a.aj bm).ended=(CS.rd b).rq.fin:=by
 show(a.aj bm).ended=(b.named bm).ended
 by_cases hf:a.f=none
 ·obtain rfl:=h.eq hf
  unfold Q.aj
  rw[if_pos hf]
 ·have hb:(b.named bm).f≠none:=by show b.f≠none;rw[← h.f];exact hf
  unfold Q.aj Q.ended
  rw[if_neg hf,if_neg (fun h=>hf h.1),if_neg (fun h=>hb h.1)]
  show eD a.f=eD b.f
  rw[h.f]
structure HV where
 b:List Nat
 x:Value
structure HL (w:World) (base:Nat) (v:Value) (L:List HV):Prop where
 row:w.ownsRow base 23 1 v L.length (L.map HV.x)
 el:∀ q∈L,Src w q.x q.b∧∀ g o n c,q.x = .slice (some ⟨g,o,none⟩) (n+1) c→base≤g∧g<w.heap.size∧v.ownBlock≠some g
theorem Src.yL {w w':World} {x:Value} {l:List Nat} {S:Nat→Prop} (h:Src w x l) (hf:Fr S w w') (hS:∀ g o n c,x = .slice (some ⟨g,o,none⟩) (n+1) c→¬ S g):Src w' x l:=by
 rcases h with h|⟨g,o,c,hx,hc⟩|h
 ·exact .inl h
 ·cases l with
  | nil=>exact .inr (.inr ⟨_,c,hx,rfl⟩)
  | cons a r=>exact .inr (.inl ⟨g,o,c,hx,fun j v hv=>(hf.cell (p:=⟨g,o+j,none⟩) (ab (hc j v hv)) (hS g o _ c hx)).trans (hc j v hv)⟩)
 ·exact .inr (.inr h)
theorem HL.dc {w w':World} {base:Nat} {v:Value} {L:List HV} {S:Nat→Prop} (h:HL w base v L) (hf:Fr S w w') (hS:∀ k,S k→k<base∨w.heap.size≤k):HL w' base v L:=
 ⟨aA h.row (fun k hk=>hf.block k (h.row.lt k hk).2 (fun hx=>by have:=hS k hx;have:=h.row.lt k hk;omega)),fun q hq=>by
  obtain⟨h1,h2⟩:=h.el q hq
  refine⟨h1.yL hf (fun g o n c e hx=>by have:=hS g hx;have:=h2 g o n c e;omega),fun g o n c e=>?_⟩
  obtain⟨a,b,c'⟩:=h2 g o n c e
  exact⟨a,Nat.lt_of_lt_of_le b hf.size,c'⟩⟩
theorem HL.base {w:World} {base base':Nat} {v:Value} {L:List HV} (h:HL w base v L) (hb:base'≤base):HL w base' v L:=⟨aK h.row hb,fun q hq=>⟨(h.el q hq).1,fun g o n c e=>by
 obtain⟨a,b,c'⟩:=(h.el q hq).2 g o n c e
 exact⟨by omega,b,c'⟩⟩⟩
theorem HL.nil (w:World) (base:Nat):HL w base (.slice none 0 0) []:=⟨World.ownsRow_nil _ _ _ _,fun q hq=>by simp at hq⟩
theorem HL.form {w:World} {base:Nat} {v:Value} {L:List HV} (h:HL w base v L):∃ ao cap,v = .slice ao L.length cap:=cU h.row
theorem HL.one {w:World} {base:Nat} {v:Value} {L:List HV} (h:HL w base v L):∀ q∈L,q.x.oneCell'=true:=fun q hq=>by
 obtain⟨xo,xc,e⟩:=(h.el q hq).1.form
 rw[e]
 rfl
theorem HL.add {w:World} {base:Nat} {v:Value} {L:List HV} (h:HL w base v L) (hb:base≤w.heap.size) (q:HV) (hq:Src w q.x q.b) (hlt:∀ g o n c,q.x = .slice (some ⟨g,o,none⟩) (n+1) c→base≤g∧g<w.heap.size∧v.ownBlock≠some g) (hn:L.length≤1000000) :
  ∃ ao cap w',(Builtin.append_ #[38,38] 38 #[v,.slice (some ⟨w.heap.size,0,none⟩) 1 1]).run Tryz.prog (w.alloc (.cells #[q.x] 23)) = .ok (.slice ao (L.length+1) cap) w'∧HL w' base (.slice ao (L.length+1) cap) (L++[q])∧Fr (fun g=>v.ownBlock=some g) w w':=by
 obtain⟨i0,hi,hz0,hz1,hz2⟩:=info_parts Tryz.yM
 have hbx:=aB w (.cells #[q.x] 23)
 have hsz:(w.alloc (.cells #[q.x] 23)).heap.size=w.heap.size+1:=by simp
 have hA:=h.dc hbx (fun _ h=>h.elim)
 have hone:q.x.oneCell'=true:=by
  obtain⟨xo,xc,e⟩:=hq.form
  rw[e]
  rfl
 obtain⟨v',w',hr,h2,h3,_,h5⟩:=run_append_own_at (P:=Tryz.prog) (w:=w.alloc (.cells #[q.x] 23)) base 38 38 23 i0 (.slice none 0 0) 1 24 Tryz.underlying38 hi hz0 hz1 hz2 rfl (by decide) v L.length _ hA.row ⟨w.heap.size,0,none⟩ 1 1 [q.x] rfl (fun j u hu=>by
  rw[addr_add,World.cell?_alloc_at _ _ _ _ rfl];simpa using hu) (fun u hu=>by simp at hu;subst hu;exact hone) (by simp only[maxLen];omega) (by omega) (by omega)
 obtain⟨ao,cap,rfl⟩:=cU h2
 have hf:Fr (fun g=>v.ownBlock=some g) (w.alloc (.cells #[q.x] 23)) w':=(Fr.refl _ _).grown h3 (fun g hg=>.inl hg)
 have hff:Fr (fun g=>v.ownBlock=some g) w w':=(hbx.mono (fun _ _ h=>h.elim)).trans hf (fun _ _ h=>h)
 refine⟨ao,cap,w',hr,⟨by rw[List.map_append,List.length_append];exact h2,fun p hp=>?_⟩,hff⟩
 have hp':Src w p.x p.b∧∀ g o n c,p.x = .slice (some ⟨g,o,none⟩) (n+1) c→base≤g∧g<w.heap.size∧v.ownBlock≠some g:=by
  rcases List.mem_append.1 hp with hp|hp
  ·exact h.el p hp
  ·rw[List.mem_singleton] at hp
   subst hp
   exact⟨hq,hlt⟩
 refine⟨hp'.1.yL hff (fun g o n c e=>(hp'.2 g o n c e).2.2),fun g o n c e=>?_⟩
 obtain⟨a,b,c'⟩:=hp'.2 g o n c e
 refine⟨a,Nat.lt_of_lt_of_le b hff.size,fun hx=>?_⟩
 rcases h5 with e5|e5
 ·rw[e5] at hx
  exact c' hx
 ·rw[e5] at hx
  simp only[Option.some.injEq] at hx
  omega
def tY (l:List Nat) (w:World) (vs:List Value):Prop:=∃ y z,vs=aY 17 ((aQ l).2.aJ y z).toList∧kh w y (aQ l).2.rq.fs∧Src w z (aQ l).2.dg∧(aQ l).2.dg.length≤140737488355328
def zM (l:List Nat) (w:World) (vs:List Value):Prop:=∃ y,vs=aY 30 [.int .u32 ((bK l).2.1:Nat),y]∧Src w y (bK l).2.2∧(bK l).2.2.length≤140737488355328
def o9 (l:List Nat) (w:World) (vs:List Value):Prop:=∃ y z,vs=aY 32 [.int .u32 ((aC l).2.1.1:Nat),y,.int .u32 ((aC l).2.2.1:Nat),z]∧Src w y (aC l).2.1.2∧Src w z (aC l).2.2.2∧(aC l).2.1.2.length≤140737488355328∧(aC l).2.2.2.length≤140737488355328
def tQ (l:List Nat) (w:World) (vs:List Value):Prop:=∃ (L:List HV) (po:Option Addr) (pc:Nat),vs=aY 36 [.slice po L.length pc]∧L.map HV.b=(bw l).2∧∀ (j:Nat) (q:HV),L[j]?=some q→q.b.length≤140737488355328∧∃ g o,po=some ⟨g,o,none⟩∧w.cell? ⟨g,o+j,none⟩=some q.x∧Src w q.x q.b
def mG (l:List Nat) (w:World) (vs:List Value):Prop:=∃ y0 y1 y2 y3 y4,vs=aY 37 ((aF l).2.aJ y0 y1 y2 y3 y4).toList∧kh w y0 (aF l).2.rq.fs∧kh w y1 (aF l).2.an.fs∧xL w y2 (aF l).2.an.hi∧kh w y3 (aF l).2.ev.rq.fs∧Src w y4 (aF l).2.ev.dg∧(aF l).2.ev.dg.length≤140737488355328
def DK (k:Nat) (l:List Nat) (w:World) (vs:List Value):Prop:=
 if k=1 then gh l w vs else if k=2 then iT l w vs else if k=3 then tY l w vs else if k=4 then zM l w vs else if k=5 then o9 l w vs else if k=6 then tQ l w vs else mG l w vs
theorem dH {w w1:World} {x:Value} {l:List Nat} (h:Src w x l) (hf:Fr (fun _=>False) w w1):Src w1 x l:=h.fr hf (fun _ _ _ _ _ h=>h)
theorem rQ {l:List Nat} {w:World} {va vb:List Value} (ha:gh l w va) (hb:gh l w vb) :
  Calls Tryz.prog 18 #[.agg va.toArray,.agg vb.toArray] w fun e w'=>e = .returned (.bool true)∧Fr (fun _=>False) w w':=by
 obtain⟨y,rfl,hy⟩:=ha
 obtain⟨x,rfl,hx⟩:=hb
 generalize (aL l).2=v at *
 exact gA _ _ 0 0 none none 0 0 (.slice none 0 0) (.slice none 0 0) w (by decide) rfl rfl rfl rfl rfl rfl (eE w) (j5 rfl rfl (by decide) (fun U hU=>mi v y x U (hy.aD hU) (hx.aD hU))) (bB (of_decide_eq_true rfl) rfl (of_decide_eq_true rfl) (by decide) dY) (bB (of_decide_eq_true rfl) rfl (of_decide_eq_true rfl) (by decide) eP) (bB (of_decide_eq_true rfl) rfl (of_decide_eq_true rfl) (by decide) dp) (bB (of_decide_eq_true rfl) rfl (of_decide_eq_true rfl) (by decide) dp) (fun W _=>gq W) (bB (of_decide_eq_true rfl) rfl (of_decide_eq_true rfl) (by decide) dL)
theorem ux {l:List Nat} {w:World} {va vb:List Value} (ha:iT l w va) (hb:iT l w vb) :
  Calls Tryz.prog 18 #[.agg va.toArray,.agg vb.toArray] w fun e w'=>e = .returned (.bool true)∧Fr (fun _=>False) w w':=by
 obtain⟨y,z,rfl,hy,hz⟩:=ha
 obtain⟨x,p,rfl,hx,hp⟩:=hb
 generalize (aM l).2=v at *
 exact gA _ _ 0 0 none none 0 0 (.slice none 0 0) (.slice none 0 0) w (by decide) rfl rfl rfl rfl rfl rfl (eE w) (bB (of_decide_eq_true rfl) rfl (of_decide_eq_true rfl) (by decide) dx) (j5 rfl rfl (by decide) (fun U hU=>sB v y x z p U (hy.aD hU) (hx.aD hU) (hz.aD hU) (hp.aD hU))) (bB (of_decide_eq_true rfl) rfl (of_decide_eq_true rfl) (by decide) eP) (bB (of_decide_eq_true rfl) rfl (of_decide_eq_true rfl) (by decide) dp) (bB (of_decide_eq_true rfl) rfl (of_decide_eq_true rfl) (by decide) dp) (fun W _=>gq W) (bB (of_decide_eq_true rfl) rfl (of_decide_eq_true rfl) (by decide) dL)
theorem wj {l:List Nat} {w:World} {va vb:List Value} (ha:uU l w va) (hb:tY l w vb) :
  Calls Tryz.prog 18 #[.agg va.toArray,.agg vb.toArray] w fun e w'=>e = .returned (.bool true)∧Fr (fun _=>False) w w':=by
 obtain⟨y,z,rfl,hy,hz⟩:=ha
 obtain⟨x,p,rfl,hx,hp,hl⟩:=hb
 generalize (aQ l).2=v at *
 exact gA _ _ 0 0 none none 0 0 (.slice none 0 0) (.slice none 0 0) w (by decide) rfl rfl rfl rfl rfl rfl (eE w) (bB (of_decide_eq_true rfl) rfl (of_decide_eq_true rfl) (by decide) dx) (bB (of_decide_eq_true rfl) rfl (of_decide_eq_true rfl) (by decide) dY) (j5 rfl rfl (by decide) (fun U hU=>lZ v v.dg y x z p U (hy.aD hU) (hx.aD hU) (hz.aD hU).src (dH hp hU) rfl hl)) (bB (of_decide_eq_true rfl) rfl (of_decide_eq_true rfl) (by decide) dp) (bB (of_decide_eq_true rfl) rfl (of_decide_eq_true rfl) (by decide) dp) (fun W _=>gq W) (bB (of_decide_eq_true rfl) rfl (of_decide_eq_true rfl) (by decide) dL)
theorem Ai {l:List Nat} {w:World} {va vb:List Value} (ha:zA l w va) (hb:zM l w vb) :
  Calls Tryz.prog 18 #[.agg va.toArray,.agg vb.toArray] w fun e w'=>e = .returned (.bool true)∧Fr (fun _=>False) w w':=by
 obtain⟨y,rfl,hy⟩:=ha
 obtain⟨x,rfl,hx,hl⟩:=hb
 generalize (bK l).2.1=n at *
 generalize (bK l).2.2=r at *
 exact gA _ _ 0 0 none none 0 0 (.slice none 0 0) (.slice none 0 0) w (by decide) rfl rfl rfl rfl rfl rfl (eE w) (bB (of_decide_eq_true rfl) rfl (of_decide_eq_true rfl) (by decide) dx) (bB (of_decide_eq_true rfl) rfl (of_decide_eq_true rfl) (by decide) dY) (bB (of_decide_eq_true rfl) rfl (of_decide_eq_true rfl) (by decide) eP) (j5 rfl rfl (by decide) (fun U hU=>oG n y x r r U (hy.aD hU).src (dH hx hU) rfl hl)) (bB (of_decide_eq_true rfl) rfl (of_decide_eq_true rfl) (by decide) dp) (fun W _=>gq W) (bB (of_decide_eq_true rfl) rfl (of_decide_eq_true rfl) (by decide) dL)
theorem tq {l:List Nat} {w:World} {va vb:List Value} (ha:pd l w va) (hb:o9 l w vb) :
  Calls Tryz.prog 18 #[.agg va.toArray,.agg vb.toArray] w fun e w'=>e = .returned (.bool true)∧Fr (fun _=>False) w w':=by
 obtain⟨y,z,rfl,hy,hz⟩:=ha
 obtain⟨x,p,rfl,hx,hp,hl,hl2⟩:=hb
 generalize (aC l).2.1.1=n at *
 generalize (aC l).2.1.2=r at *
 generalize (aC l).2.2.1=k at *
 generalize (aC l).2.2.2=g at *
 exact gA _ _ 0 k none none 0 0 z p w (by decide) rfl rfl rfl rfl rfl rfl (eE w) (bB (of_decide_eq_true rfl) rfl (of_decide_eq_true rfl) (by decide) dx) (bB (of_decide_eq_true rfl) rfl (of_decide_eq_true rfl) (by decide) dY) (bB (of_decide_eq_true rfl) rfl (of_decide_eq_true rfl) (by decide) eP) (bB (of_decide_eq_true rfl) rfl (of_decide_eq_true rfl) (by decide) dp) ⟨⟨[.int .u32 (n:Nat),y],[.int .u32 (n:Nat),x],rfl,rfl,rfl,rfl,fun U hU=>oG n y x r r U (hy.aD hU).src (dH hx hU) rfl hl⟩⟩ (fun U hU=>jP z p g g U (hz.aD hU).src (dH hp hU) rfl hl2) (bB (of_decide_eq_true rfl) rfl (of_decide_eq_true rfl) (by decide) dL)
theorem xB {l:List Nat} {w:World} {va vb:List Value} (ha:tz l w va) (hb:tQ l w vb) :
  Calls Tryz.prog 18 #[.agg va.toArray,.agg vb.toArray] w fun e w'=>e = .returned (.bool true)∧Fr (fun _=>False) w w':=by
 obtain⟨po,pc,rfl,hy⟩:=ha
 obtain⟨L,xo,xc,rfl,hm,hL⟩:=hb
 have hln:L.length=(bw l).2.length:=by rw[← hm,List.length_map]
 have hP:Twins w (bw l).2.length po xo:=⟨fun j hj=>by
  have j1:(bw l).2[j]?=some ((bw l).2[j]'hj):=List.getElem?_eq_getElem hj
  have j2:L[j]?=some (L[j]'(by rw[hln];exact hj)):=List.getElem?_eq_getElem _
  generalize (bw l).2[j]'hj=p at j1
  generalize L[j]'(by rw[hln];exact hj)=q at j2
  obtain⟨hq,g2,o2,e2,c2,s2⟩:=hL j q j2
  obtain⟨g1,o1,x1,e1,c1,s1⟩:=hy.el j p j1
  have hpq:q.b=p:=by
   have h3:(L.map HV.b)[j]?=some q.b:=by rw[List.getElem?_map,j2];rfl
   rw[hm,j1] at h3
   exact(Option.some.inj h3).symm
  subst hpq
  obtain⟨a2,m2,ex2⟩:=s2.form
  obtain⟨a1,m1,rfl⟩:=s1.src.form
  rw[ex2] at c2 s2
  exact⟨g1,o1,g2,o2,a1,_,m1,a2,_,m2,e1,e2,c1,c2,fun U hU=>jP _ _ _ _ U (s1.aD hU).src (dH s2 hU) rfl hq⟩⟩
 have hlen:=hy.len
 rw[hln]
 generalize (bw l).2.length=N at *
 exact gA _ _ N 0 po xo pc xc (.slice none 0 0) (.slice none 0 0) w hlen rfl rfl rfl rfl rfl rfl hP (bB (of_decide_eq_true rfl) rfl (of_decide_eq_true rfl) (by decide) dx) (bB (of_decide_eq_true rfl) rfl (of_decide_eq_true rfl) (by decide) dY) (bB (of_decide_eq_true rfl) rfl (of_decide_eq_true rfl) (by decide) eP) (bB (of_decide_eq_true rfl) rfl (of_decide_eq_true rfl) (by decide) dp) (bB (of_decide_eq_true rfl) rfl (of_decide_eq_true rfl) (by decide) dp) (fun W _=>gq W) (bB (of_decide_eq_true rfl) rfl (of_decide_eq_true rfl) (by decide) dL)
theorem ss {l:List Nat} {w:World} {va vb:List Value} (ha:mg l w va) (hb:mG l w vb) :
  Calls Tryz.prog 18 #[.agg va.toArray,.agg vb.toArray] w fun e w'=>e = .returned (.bool true)∧Fr (fun _=>False) w w':=by
 obtain⟨y0,y1,y2,y3,y4,rfl,i0,i1,i2,i3,i4⟩:=ha
 obtain⟨x0,x1,x2,x3,x4,rfl,j0,j1,j2,j3,j4,hl⟩:=hb
 generalize (aF l).2=v at *
 have hmsg:∀ U,Fr (fun _=>False) w U→Calls Tryz.prog 44 #[.agg (v.aJ y0 y1 y2 y3 y4).toList.toArray,.agg (v.aJ x0 x1 x2 x3 x4).toList.toArray] U fun e w'=>e = .returned (.bool true)∧Fr (fun _=>False) U w':=fun U hU=>by
  have tr:∀ {a b c:World},Fr (fun _=>False) a b→Fr (fun _=>False) b c→Fr (fun _=>False) a c:=fun h1 h2=>h1.trans h2 (fun _ _ h=>h)
  exact sW _ _ v.kd v.icl v.inu v.co v.le U rfl rfl rfl rfl rfl rfl rfl rfl rfl rfl
   ⟨⟨(v.rq.aJ y0).toList,(v.rq.aJ x0).toList,rfl,rfl,rfl,rfl,fun S hS=>mi v.rq y0 x0 S (i0.aD (tr hU hS)) (j0.aD (tr hU hS))⟩⟩
   ⟨⟨(v.an.aJ y1 y2).toList,(v.an.aJ x1 x2).toList,rfl,rfl,rfl,rfl,fun S hS=>sB v.an y1 x1 y2 x2 S (i1.aD (tr hU hS)) (j1.aD (tr hU hS)) (i2.aD (tr hU hS)) (j2.aD (tr hU hS))⟩⟩
   ⟨⟨(v.ev.aJ y3 y4).toList,(v.ev.aJ x3 x4).toList,rfl,rfl,rfl,rfl,fun S hS=>lZ v.ev v.ev.dg y3 x3 y4 x4 S (i3.aD (tr hU hS)) (j3.aD (tr hU hS)) (i4.aD (tr hU hS)).src (dH j4 (tr hU hS)) rfl hl⟩⟩
 exact gA _ _ 0 0 none none 0 0 (.slice none 0 0) (.slice none 0 0) w (by decide) rfl rfl rfl rfl rfl rfl (eE w) (bB (of_decide_eq_true rfl) rfl (of_decide_eq_true rfl) (by decide) dx) (bB (of_decide_eq_true rfl) rfl (of_decide_eq_true rfl) (by decide) dY) (bB (of_decide_eq_true rfl) rfl (of_decide_eq_true rfl) (by decide) eP) (bB (of_decide_eq_true rfl) rfl (of_decide_eq_true rfl) (by decide) dp) (bB (of_decide_eq_true rfl) rfl (of_decide_eq_true rfl) (by decide) dp) (fun W _=>gq W) (j5 rfl rfl (by decide) (fun U hU=>hmsg U hU))
theorem AV (k:Nat) (h1:1≤k) (h7:k≤7) {l:List Nat} {w:World} {va vb:List Value} (ha:VK k l w va) (hb:DK k l w vb) :
  Calls Tryz.prog 18 #[.agg va.toArray,.agg vb.toArray] w fun e w'=>e = .returned (.bool true)∧Fr (fun _=>False) w w':=by
 rcases(by omega:k=1∨k=2∨k=3∨k=4∨k=5∨k=6∨k=7) with rfl|rfl|rfl|rfl|rfl|rfl|rfl
 ·exact rQ (by simpa[VK] using ha) (by simpa[DK] using hb)
 ·exact ux (by simpa[VK] using ha) (by simpa[DK] using hb)
 ·exact wj (by simpa[VK] using ha) (by simpa[DK] using hb)
 ·exact Ai (by simpa[VK] using ha) (by simpa[DK] using hb)
 ·exact tq (by simpa[VK] using ha) (by simpa[DK] using hb)
 ·exact xB (by simpa[VK] using ha) (by simpa[DK] using hb)
 ·exact ss (by simpa[VK] using ha) (by simpa[DK] using hb)
def Q.D (q:Q) (k i j:Nat):Q:=
 if k=1 then q.sQ i else if k=2 then (q.a7 i j).1 else if k=3 then (q.v5 i).1 else if k=4 then q.cQ.1 else if k=5 then q.bk.1 else if k=6 then (q.p2 j).1 else (q.iJ i j).1
structure Q.AZ (q:Q) (k i j:Nat):Prop where
 r:k=1→q.sP i
 a:k=2→q.CT i j
 e:k=3→q.v2.1.sP i
 p:k=6→q.Da j
 m:k=7→q.yN.Cn q.m1.2 i j
def eT (k:Nat) (l:List Nat) (i j:Nat):Q:=if (Q.begun l k).f=none then (Q.begun l k).D k i j else Q.begun l k
theorem BT (k:Nat) (h1:1≤k) (h7:k≤7) (l:List Nat) (i j:Nat) (hok:(Q.begun l k).f=none→(Q.begun l k).AZ k i j):∃ b,xh k l = .rd b∧QL (eT k l i j) b:=by
 obtain⟨b0,e0,h0⟩:=eN l k
 by_cases hf:(Q.begun l k).f=none
 ·have hk:=hok hf
  unfold eT
  rw[if_pos hf]
  generalize Q.begun l k=a at *
  match k,h1,h7 with
  | 1,_,_ =>
   obtain⟨b,v,e,h,_⟩:=h0.request i (hk.r rfl)
   rw[← e0] at e
   exact⟨b,congrArg Prod.fst e,h⟩
  | 2,_,_ =>
   obtain⟨b,v,e,h,_⟩:=h0.answer i j (hk.a rfl)
   rw[← e0] at e
   exact⟨b,congrArg Prod.fst e,h⟩
  | 3,_,_ =>
   obtain⟨b,v,e,h,_⟩:=h0.event i (hk.e rfl)
   rw[← e0] at e
   exact⟨b,congrArg Prod.fst e,h⟩
  | 4,_,_ =>
   obtain⟨b,e,h⟩:=h0.head
   rw[← e0] at e
   exact⟨b,congrArg Prod.fst e,h⟩
  | 5,_,_ =>
   obtain⟨b,e,h⟩:=h0.signed
   rw[← e0] at e
   exact⟨b,congrArg Prod.fst e,h⟩
  | 6,_,_ =>
   obtain⟨b,v,e,h,_⟩:=h0.proof j (hk.p rfl)
   rw[← e0] at e
   exact⟨b,congrArg Prod.fst e,h⟩
  | 7,_,_ =>
   obtain⟨b,v,e,h,_⟩:=h0.message i j (hk.m rfl)
   rw[← e0] at e
   exact⟨b,congrArg Prod.fst e,h⟩
 ·unfold eT
  rw[if_neg hf]
  have hl:=o7 k h1 h7 l
  rw[e0] at hl
  cases hc:xh k l with
  | wr s=>rw[hc] at hl;exact hl.elim
  | rd b =>
   rw[hc] at hl
   obtain⟨x,hx⟩:=Option.ne_none_iff_exists'.1 (show b0.f≠none by rw[← h0.f];exact hf)
   exact⟨b,rfl,⟨by rw[h0.all];exact hl.1.symm,by rw[h0.f,hx];exact(hl.2 x hx).symm,fun h=>absurd h hf⟩⟩
theorem y5 (k:Nat) (h1:1≤k) (h7:k≤7) (l:List Nat) (i j:Nat) (hok:(Q.begun l k).f=none→(Q.begun l k).AZ k i j):((eT k l i j).aj bm).ended=da k l:=by
 obtain⟨b,e,h⟩:=BT k h1 h7 l i j hok
 unfold da
 rw[e]
 exact h.fin
theorem A6 {q:Q} (h:q.ok) (h0:(q.aj bm).ended.2.2=0):q.f=none:=by
 by_cases hf:q.f=none
 ·exact hf
 ·exfalso
  have hx:(q.aj bm).f≠none:=by rw[Q.ij];exact hf
  unfold Q.ended at h0
  rw[if_neg (fun h=>hx h.1),Q.ij] at h0
  obtain⟨x,hx⟩:=Option.ne_none_iff_exists'.1 hf
  rw[hx] at h0
  have h1:=(h.f x hx).2.1
  have h2:x.2.2=0:=h0
  omega
theorem rL {l:List Nat} {i:Nat} (hok:(Q.begun l 1).sP i) (hf:((Q.begun l 1).sQ i).f=none):(aL l).2=(Q.begun l 1).gK i:=by
 obtain⟨b0,e0,h0⟩:=eN l 1
 obtain⟨b,v,e,_,hv⟩:=h0.request i hok
 rw[← e0] at e
 have e2:(aL l).2=v:=congrArg Prod.snd e
 rw[e2,hv hf]
theorem sU {l:List Nat} {i j:Nat} (hok:(Q.begun l 2).CT i j) (hf:((Q.begun l 2).a7 i j).1.f=none):(aM l).2=(Q.begun l 2).qC i j:=by
 obtain⟨b0,e0,h0⟩:=eN l 2
 obtain⟨b,v,e,_,hv⟩:=h0.answer i j hok
 rw[← e0] at e
 have e2:(aM l).2=v:=congrArg Prod.snd e
 rw[e2,hv hf]
theorem wD {l:List Nat} {i:Nat} (hok:(Q.begun l 3).v2.1.sP i) (hf:((Q.begun l 3).v5 i).1.f=none):(aQ l).2=(Q.begun l 3).sJ i:=by
 obtain⟨b0,e0,h0⟩:=eN l 3
 obtain⟨b,v,e,_,hv⟩:=h0.event i hok
 rw[← e0] at e
 have e2:(aQ l).2=v:=congrArg Prod.snd e
 rw[e2,hv hf]
theorem Av (l:List Nat):(bK l).2=(Q.begun l 4).cQ.2:=by
 obtain⟨b0,e0,h0⟩:=eN l 4
 obtain⟨b,e,_⟩:=h0.head
 rw[← e0] at e
 exact congrArg Prod.snd e
theorem uK (l:List Nat):(aC l).2=(Q.begun l 5).bk.2:=by
 obtain⟨b0,e0,h0⟩:=eN l 5
 obtain⟨b,e,_⟩:=h0.signed
 rw[← e0] at e
 exact congrArg Prod.snd e
theorem xF {l:List Nat} {j:Nat} (hok:(Q.begun l 6).Da j) (hf:((Q.begun l 6).p2 j).1.f=none):(bw l).2=((Q.begun l 6).p2 j).2:=by
 obtain⟨b0,e0,h0⟩:=eN l 6
 obtain⟨b,v,e,_,hv⟩:=h0.proof j hok
 rw[← e0] at e
 have e2:(bw l).2=v:=congrArg Prod.snd e
 rw[e2,hv hf]
theorem rZ {l:List Nat} {i j:Nat} (hok:(Q.begun l 7).yN.Cn (Q.begun l 7).m1.2 i j) (hf:((Q.begun l 7).iJ i j).1.f=none):(aF l).2=((Q.begun l 7).iJ i j).2:=by
 obtain⟨b0,e0,h0⟩:=eN l 7
 obtain⟨b,v,e,_,hv⟩:=h0.message i j hok
 rw[← e0] at e
 have e2:(aF l).2=v:=congrArg Prod.snd e
 rw[e2,hv hf]
theorem Tryz.iM:(Tryz.prog.info? 33).map (·.size)=some 7:=by kernel_rfl
theorem Tryz.A1:(Tryz.prog.info? 161).map (·.size)=some 4:=by kernel_rfl
def lR:List Value:=[.int .u32 0,.int .u32 0,.int .u8 0,.int .u32 0,.int .u32 0,.slice none 0 0,.slice none 0 0]
def DG:List Value:=[.int .u32 0,.int .u32 0,.int .u32 0,.bool false]
theorem gd.dc {w w':World} {base:Nat} {x:Value} {l:List dG} {S:Nat→Prop} (h:gd w base x l (fun _=>False)) (hf:Fr S w w') (hS:∀ k,S k→k<base∨w.heap.size≤k):gd w' base x l (fun _=>False):=
 ⟨fun _ _ h=>h,aA h.row (fun k hk=>hf.block k (h.row.lt k hk).2 (fun hx=>by have:=hS k hx;have:=h.row.lt k hk;omega)),h.ok⟩
theorem gd.base {w:World} {base base':Nat} {x:Value} {l:List dG} (h:gd w base x l (fun _=>False)) (hb:base'≤base):gd w base' x l (fun _=>False):=⟨fun _ _ h=>h,⟨h.row.1,h.row.2.imp (fun h=>h) (fun ⟨g,cap,cur,e,hg,r⟩=>⟨g,cap,cur,e,by omega,r⟩)⟩,h.ok⟩
def x7 (lo:Nat) (w0 W:World):Prop:=Fr (fun k=>k<lo∨w0.heap.size≤k) w0 W
theorem x7.step {lo:Nat} {w0 W W':World} {S:Nat→Prop} (h:x7 lo w0 W) (hf:Fr S W W') (hS:∀ k,S k→k<lo∨w0.heap.size≤k):x7 lo w0 W':=h.trans hf (fun k _ e=>hS k e)
theorem x7.trans {lo:Nat} {w0 w1 W:World} (h:x7 lo w0 w1) (k:x7 lo w1 W):x7 lo w0 W:=Fr.trans h k (fun i _ e=>by have:=Fr.size h;omega)
structure SX (w w0 W:World) (b:Nat) (T:TypeId) (R Z V:List Value) (U:TypeId) (S:List Value):Prop where
 bx:BX w W T R Z V
 bb:W.heap[b]?=some (.cells S.toArray U)
 ge:w0.heap.size≤b
 le:w.heap.size+4≤w0.heap.size
 fr8:x7 (w.heap.size+4) w0 W
section
variable {w w0 W W':World} {b:Nat} {T U:TypeId} {R Z V S:List Value}
theorem SX.b0 (h:SX w w0 W b T R Z V U S):W.heap[w.heap.size]?=some (.cells R.toArray 120):=h.bx.b0
theorem SX.n (h:SX w w0 W b T R Z V U S):R.length=7:=h.bx.n
theorem SX.fr (h:SX w w0 W b T R Z V U S):Fr (fun _=>False) w W:=h.bx.fr
theorem SX.lt (h:SX w w0 W b T R Z V U S):b<W.heap.size:=lt_of_block h.bb
theorem SX.aD (h:SX w w0 W b T R Z V U S) (hf:Fr (fun _=>False) W W'):SX w w0 W' b T R Z V U S:=
 ⟨h.bx.aD hf,(hf.block _ h.lt (fun h=>h)).trans h.bb,h.ge,h.le,h.fr8.step hf (fun _ h=>h.elim)⟩
theorem SX.aU (h:SX w w0 W b T R Z V U S) {R':List Value} {q:Q} {xo:Option Addr} {len xc:Nat} {all:List Nat} (hR:QS q xo len xc all R') :
  ∃ W',(Instr.storeAt 120 (.pointer (some ⟨w.heap.size,0,none⟩)) (.agg R'.toArray)).run Tryz.prog W = .ok () W'∧SX w w0 W' b T R' Z V U S∧Fr (fun k=>k=w.heap.size) W W':=by
 obtain⟨W',h1,h2,h3⟩:=h.bx.aU hR
 have hg:=h.ge
 have hl:=h.le
 exact⟨W',h1,⟨h2,(h3.block _ h.lt (fun e=>by omega)).trans h.bb,hg,hl,h.fr8.step h3 (fun k e=>by omega)⟩,h3⟩
theorem SX.cell (h:SX w w0 W b T R Z V U S) (i:Nat) (v:Value) (hv:S[i]?=some v):W.cell? ⟨b,i,none⟩=some v:=af h.bb i v hv |> fun h=>by simpa using h
theorem SX.ep (h:SX w w0 W b T R Z V U S) (i:Nat):W.frozen? ⟨b,i,none⟩=false:=by simp[World.frozen?,h.bb]
theorem SX.bL (h:SX w w0 W b T R Z V U S) (i:Nat) (v:Value):SX w w0 (W.setCell ⟨b,i,none⟩ v) b T R Z V U (S.set i v):=by
 have hg:=h.ge
 have hl:=h.le
 have h3:Fr (fun k=>k=b) W (W.setCell ⟨b,i,none⟩ v):=(Fr.refl (fun k=>k=b) W).setCell (p:=⟨b,i,none⟩) (.inl rfl) v
 refine⟨h.bx.dc h3 (fun k e=>by omega),?_,hg,hl,h.fr8.step h3 (fun k e=>by omega)⟩
 rw[ke h.bb]
 simp
theorem SX.start (h:BX w W T R Z V) (hw:x7 (w.heap.size+4) w0 W) (hl:w.heap.size+4≤w0.heap.size) (S:List Value) (U:TypeId):SX w w0 (W.alloc (.cells S.toArray U)) W.heap.size T R Z V U S:=
 ⟨h.aD (aB W _),heap_alloc_new W _,Fr.size hw,hl,hw.step (aB W _) (fun _ h=>h.elim)⟩
end
theorem Du {k:Nat} : (if decide ((k:Int) > 1)=true then 4 else 0)=(if 1<k then 4 else 0):=by
 by_cases hz:1<k
 ·rw[if_pos (show decide ((k:Int) > 1)=true from decide_eq_true (by omega)),if_pos hz]
 ·rw[if_neg (show ¬ decide ((k:Int) > 1)=true by simp;omega),if_neg hz]
theorem dG.okG (au ev fi:Nat) (re:Bool) (h1:au<4294967296) (h2:ev<4294967296) (h3:fi<4294967296):(dG.mk au ev fi re).ok:=⟨h1,h2,h3⟩
theorem gX {w:World} {xo:Option Addr} {len xc:Nat} {all:List Nat} {R:List Value} {q:Q} (A:j9 w xo len xc all) (h:QS q xo len xc all R) :
  Calls Tryz.prog 60 #[.agg R.toArray] w fun e w'=>∃ R' v y i j,e = .returned (.tuple #[.agg R'.toArray,.agg ((q.qC i j).aJ v y)])∧q.CT i j∧QS (q.a7 i j).1 xo len xc all R'∧dy w' w.heap.size v (q.a5 i).2.1 (fun _=>False)∧gd w' w.heap.size y (q.a7 i j).2 (fun _=>False)∧Fr (fun _=>False) w w':=by
 have HA:=ae A
 have HQ:=ae h
 obtain⟨s1,e1⟩:∃ x,q.gid=x:=⟨_,rfl⟩
 obtain⟨s2,e2⟩:∃ x,q.a2=x:=⟨_,rfl⟩
 obtain⟨s3,e3⟩:∃ x,q.a3=x:=⟨_,rfl⟩
 obtain⟨s4,e4⟩:∃ x,q.a4=x:=⟨_,rfl⟩
 have hre:s3.2<4294967296:=by rw[← e3];exact Q.go_lt _ 4 0
 have hve:s4.2<4294967296:=by rw[← e4];exact Q.go_lt _ 4 0
 have g2:s1.1.gn=s2:=by rw[← e1,← e2];rfl
 have g3:s2.1.bV cS 4=s3:=by rw[← e2,← e3];rfl
 have g4:s3.1.bV cg 4=s4:=by rw[← e3,← e4];rfl
 have g5:∀ i,(s4.1.bu true).dT false i=q.a5 i:=fun i=>by rw[← e4];rfl
 have HE:=ae (And.intro e1 (And.intro e2 (And.intro e3 e4)))
 have HG:=ae (And.intro g2 (And.intro g3 (And.intro g4 g5)))
 have HR:=ae (And.intro hre hve)
 clear e1 e2 e3 e4 g2 g3 g4 g5 hre hve
 obtain⟨ha,ho,last,rfl,hla⟩:=h
 rw[ei]
 have HB0:=ae (BX.start w 33 (q.rv xo len xc last).toList lR rfl)
 unfold Q.rv at HB0 ⊢
 clear ha ho hla A
 go_enter Tryz.func60,Tryz.ntmps60
 go_wp2_with fail
 refine(jM (aa HA) (u0 _ _ _ _ _) (aa HQ)).mono ?_
 rintro e wa1 ⟨Ra1,rfl,hQa,hfa⟩
 rw[(aa HE).1] at hQa ⊢
 obtain⟨wb1,hst,hBb,hfb⟩:=((aa HB0).aD hfa).aU hQa
 have HST:=ae hst
 have HB1b:=ae hBb
 have HQ1:=ae hQa
 clear hst hBb hfb hfa hQa HB0 HQ   
 have r0:=(aa HB1b).cell 0 _ rfl
 have z0:=(aa HB1b).ep 0
 have l0:=ab r0
 have r1:=(aa HB1b).cell 1 _ rfl
 have z1:=(aa HB1b).ep 1
 have l1:=ab r1
 go_upto_region 3 with (first|((with_reducible refine aq ?_);refine ag rfl 120 (.tmp 1) (.tmp 12) rfl _ _ rfl rfl (aa HST) ?_))
 clear HST
 have HB2:Hid (BX w _ 33 Ra1 lR [.int .u32 (s1.2.1:Nat),.int .u32 (s1.2.2:Nat),.int .u8 0,.int .u32 0,.int .u32 0,.slice none 0 0,.slice none 0 0]):=ae (((aa HB1b).bL 0 (.int .u32 (s1.2.1:Nat))).bL 1 (.int .u32 (s1.2.2:Nat)))
 clear r0 z0 l0 r1 z1 l1
 clear HB1b 
 go_wp2_with (first|((with_reducible refine av 16 ?_);refine wpList_load_mid rfl 120 (.tmp 1) rfl w.heap.size 0 rfl _ _ (af (aa HB2).b0) Tryz.underlying120 rfl (by rw[(aa HB2).n];exact Tryz.al) ?_))
 refine(lW (aa HA) (aa HB2).fr (aa HQ1)).mono ?_
 rintro e wa3 ⟨Ra3,rfl,hQa,hfa⟩
 rw[(aa HG).1] at hQa ⊢
 obtain⟨wb3,hst,hBb,hfb⟩:=((aa HB2).aD hfa).aU hQa
 have HST:=ae hst
 have HB3b:=ae hBb
 have HQ3:=ae hQa
 clear hst hBb hfb hfa hQa HB2 HQ1   
 have r2:=(aa HB3b).cell 2 _ rfl
 have z2:=(aa HB3b).ep 2
 have l2:=ab r2
 go_upto_region 4 with (first|((with_reducible refine aq ?_);refine ag rfl 120 (.tmp 1) (.tmp 18) rfl _ _ rfl rfl (aa HST) ?_))
 clear HST
 have HB4:Hid (BX w _ 33 Ra3 lR [.int .u32 (s1.2.1:Nat),.int .u32 (s1.2.2:Nat),.int .u8 (s2.2:Nat),.int .u32 0,.int .u32 0,.slice none 0 0,.slice none 0 0]):=ae ((aa HB3b).bL 2 (.int .u8 (s2.2:Nat)))
 clear r2 z2 l2
 clear HB3b 
 go_wp2_with (first|((with_reducible refine av 22 ?_);refine wpList_load_mid rfl 120 (.tmp 1) rfl w.heap.size 0 rfl _ _ (af (aa HB4).b0) Tryz.underlying120 rfl (by rw[(aa HB4).n];exact Tryz.al) ?_))
 refine(cG (aa HA) (aa HB4).fr (aa HQ3) cS 4 (.inr (.inl rfl))).mono ?_
 rintro e wa5 ⟨Ra5,rfl,hQa,hfa⟩
 rw[(aa HG).2.1] at hQa ⊢
 obtain⟨wb5,hst,hBb,hfb⟩:=((aa HB4).aD hfa).aU hQa
 have hw:=dq (aa HR).1
 have HST:=ae hst
 have HB5b:=ae hBb
 have HQ5:=ae hQa
 clear hst hBb hfb hfa hQa HB4 HQ3   
 have r3:=(aa HB5b).cell 3 _ rfl
 have z3:=(aa HB5b).ep 3
 have l3:=ab r3
 go_upto_region 6 with (first|((with_reducible refine aq ?_);refine ag rfl 120 (.tmp 1) (.tmp 24) rfl _ _ rfl rfl (aa HST) ?_))
 clear HST
 have HB6:Hid (BX w _ 33 Ra5 lR [.int .u32 (s1.2.1:Nat),.int .u32 (s1.2.2:Nat),.int .u8 (s2.2:Nat),.int .u32 (s3.2:Nat),.int .u32 0,.slice none 0 0,.slice none 0 0]):=ae ((aa HB5b).bL 3 (.int .u32 (s3.2:Nat)))
 clear r3 z3 l3
 clear HB5b 
 clear hw
 go_wp2_with (first|((with_reducible refine av 30 ?_);refine wpList_load_mid rfl 120 (.tmp 1) rfl w.heap.size 0 rfl _ _ (af (aa HB6).b0) Tryz.underlying120 rfl (by rw[(aa HB6).n];exact Tryz.al) ?_))
 refine(cG (aa HA) (aa HB6).fr (aa HQ5) cg 4 (.inr (.inl rfl))).mono ?_
 rintro e wa7 ⟨Ra7,rfl,hQa,hfa⟩
 rw[(aa HG).2.2.1] at hQa ⊢
 obtain⟨wb7,hst,hBb,hfb⟩:=((aa HB6).aD hfa).aU hQa
 have hw:=dq (aa HR).2
 have HST:=ae hst
 have HB7b:=ae hBb
 have HQ7:=ae hQa
 clear hst hBb hfb hfa hQa HB6 HQ5   
 have r4:=(aa HB7b).cell 4 _ rfl
 have z4:=(aa HB7b).ep 4
 have l4:=ab r4
 go_upto_region 8 with (first|((with_reducible refine aq ?_);refine ag rfl 120 (.tmp 1) (.tmp 32) rfl _ _ rfl rfl (aa HST) ?_))
 clear HST
 have HB8:Hid (BX w _ 33 Ra7 lR [.int .u32 (s1.2.1:Nat),.int .u32 (s1.2.2:Nat),.int .u8 (s2.2:Nat),.int .u32 (s3.2:Nat),.int .u32 (s4.2:Nat),.slice none 0 0,.slice none 0 0]):=ae ((aa HB7b).bL 4 (.int .u32 (s4.2:Nat)))
 clear r4 z4 l4
 clear HB7b 
 clear hw
 go_wp2_with (first|((with_reducible refine av 38 ?_);refine wpList_load_mid rfl 120 (.tmp 1) rfl w.heap.size 0 rfl _ _ (af (aa HB8).b0) Tryz.underlying120 rfl (by rw[(aa HB8).n];exact Tryz.al) ?_))
 refine(ig ((aa HA).aD (aa HB8).fr) (aa HQ7) true false).mono ?_
 rintro e wa9 ⟨Ra9,fv,fi,rfl,hi1,hi2,hQa,hOa,hfa⟩
 rw[(aa HG).2.2.2 fi] at hQa hOa hi2
 obtain⟨fo,fc,rfl⟩:=cU hOa.row
 have hlo:=(aa HB8).lt
 have hOa:=hOa.base (base':=w.heap.size+4) (by omega)
 obtain⟨wb9,hst,hBb,hfb⟩:=((aa HB8).aD hfa).aU hQa
 have HO1:=ae (hOa.dc hfb (fun k hk=>.inl (by omega)))
 have HI:=ae (And.intro hi1 hi2)
 clear hi1 hi2 hlo
 have HST:=ae hst
 have HB9b:=ae hBb
 have HQ9:=ae hQa
 clear hst hBb hfb hfa hQa HB8 HQ7   hOa
 have r5:=(aa HB9b).cell 5 _ rfl
 have z5:=(aa HB9b).ep 5
 have l5:=ab r5
 go_upto_region 9 with (first|((with_reducible refine aq ?_);refine ag rfl 120 (.tmp 1) (.tmp 40) rfl _ _ rfl rfl (aa HST) ?_))
 clear HST
 have HB10:Hid (BX w _ 33 Ra9 lR [.int .u32 (s1.2.1:Nat),.int .u32 (s1.2.2:Nat),.int .u8 (s2.2:Nat),.int .u32 (s3.2:Nat),.int .u32 (s4.2:Nat),.slice fo (q.a5 fi).2.1.length fc,.slice none 0 0]):=ae ((aa HB9b).bL 5 (.slice fo (q.a5 fi).2.1.length fc))
 have HO10:=ae ((aa HO1).dc (S:=fun k=>k=w.heap.size+1+1+1) (((Fr.refl (fun k=>k=w.heap.size+1+1+1) _).setCell (p:=⟨w.heap.size+1+1+1,5,none⟩) (.inl rfl) (.slice fo (q.a5 fi).2.1.length fc))) (fun k hk=>.inl (by omega)))
 clear r5 z5 l5 HB9b HO1
 obtain⟨c,hc⟩:∃ c,q.a6 fi=c:=⟨_,rfl⟩
 have hcl:c.2≤64:=by rw[← hc];exact Q.fe _ _ 64
 obtain⟨cn,hcn⟩:∃ x,c.2=x:=⟨_,rfl⟩
 rw[hcn] at hcl
 have g6:(q.a5 fi).1.bT aP 64=c:=hc
 have HC:=ae (And.intro hc (And.intro hcn g6))
 clear hc hcn g6
 go_wp2_with (first|((with_reducible refine av 44 ?_);refine wpList_load_mid rfl 120 (.tmp 1) rfl w.heap.size 0 rfl _ _ (af (aa HB10).b0) Tryz.underlying120 rfl (by rw[(aa HB10).n];exact Tryz.al) ?_))
 refine(uG (aa HA) (aa HB10).fr (aa HQ9) aP 64 (by decide)).mono ?_
 rintro e wa11 ⟨Ra11,rfl,hQa,hfa⟩
 rw[(aa HC).2.2] at hQa ⊢
 rw[(aa HC).2.1]
 obtain⟨wb11,hst,hBb,hfb⟩:=((aa HB10).aD hfa).aU hQa
 have HO11:=ae (((aa HO10).dc hfa (fun _ h=>h.elim)).dc hfb (fun k hk=>.inl (by omega)))
 have HST:=ae hst
 have HB11b:=ae hBb
 have HQ11:=ae hQa
 clear hst hBb hfb hfa hQa HB10 HQ9  HO10 
 go_upto_region 11 with (first|((with_reducible refine aq ?_);refine ag rfl 120 (.tmp 1) (.tmp 46) rfl _ _ rfl rfl (aa HST) ?_))
 clear HST
 have hwl:=(aa HB11b).lt
 have HFd:=ae (fun W (hf:x7 (w.heap.size+4) wb11 W)=>(aa HO11).dc (S:=fun k=>k<w.heap.size+4∨wb11.heap.size≤k) hf (fun k hk=>hk))
 have HLE:=ae (show w.heap.size+4≤wb11.heap.size by omega)
 clear hwl HO11
 go_loopw [7] (fun iv wr=>∃ (i:Nat) (R':List Value) (hv:Value),i≤cn∧iv = .int .i64 (i:Nat)∧QS (Q.gl Q.jx c.1 i).1 xo len xc all R'∧BX w wr 33 R' lR [.int .u32 (s1.2.1:Nat),.int .u32 (s1.2.2:Nat),.int .u8 (s2.2:Nat),.int .u32 (s3.2:Nat),.int .u32 (s4.2:Nat),.slice fo (q.a5 fi).2.1.length fc,hv]∧x7 (w.heap.size+4) wb11 wr∧gd wr wb11.heap.size hv (Q.gl Q.jx c.1 i).2 (fun _=>False)) (fun iv _=>cn - (intOf iv).toNat)
 case atStart=>exact⟨0,Ra11,.slice none 0 0,Nat.zero_le _,rfl,(aa HQ11),(aa HB11b),Fr.refl _ _,gd.nil _ _ _⟩
 case round =>
  obtain⟨i,Rr,hv,hi,rfl,hQ,hB,hF,hO⟩:=hrel
  rename World=>wr
  clear HB11b HQ11
  obtain⟨s,hs⟩:∃ s,Q.gl Q.jx c.1 i=s:=⟨_,rfl⟩
  rw[hs] at hQ hO
  have hw1:=zO (n:=i) (by omega)
  have hln:s.2.length=i:=by rw[← hs];exact Q.Ar _ _ _
  obtain⟨ho,hcp,rfl⟩:=cU hO.row
  have HQr:=ae hQ
  have HBr:=ae hB
  have HFr:=ae hF
  have HOr:=ae hO
  have HSi:=ae (And.intro hs hln)
  clear hQ hB hF hO hs hln
  by_cases hlt:i<cn
  ·have hlt2:(i:Int)<(cn:Int):=by omega
   go_wp2_with (first|((with_reducible refine av 52 ?_);refine kC rfl 120 (.tmp 1) rfl w.heap.size 0 rfl _ _ (af (aa HBr).b0) Tryz.underlying120 rfl (by rw[(aa HBr).n];exact Tryz.al) ?_))
   refine(jn (aa HQr)).mono ?_
   rintro e w4 ⟨rfl,hf4⟩
   have HB4:=ae ((aa HBr).aD hf4)
   have HF4:=ae ((aa HFr).step hf4 (fun _ h=>h.elim))
   have HO4:=ae ((aa HOr).dc hf4 (fun _ h=>h.elim))
   clear hf4 HBr HFr HOr
   by_cases hg:s.1.f=none
   ·rw[decide_eq_true hg]
    obtain⟨t1,e1⟩:∃ x,s.1.bV eI 4=x:=⟨_,rfl⟩
    obtain⟨t2,e2⟩:∃ x,s.1.s2=x:=⟨_,rfl⟩
    obtain⟨t3,e3⟩:∃ x,s.1.s3=x:=⟨_,rfl⟩
    obtain⟨t4,e4⟩:∃ x,s.1.s4=x:=⟨_,rfl⟩
    have h1:t1.2<4294967296:=by rw[← e1];exact Q.go_lt _ 4 0
    have h2:t2.2<4294967296:=by rw[← e2];exact Q.go_lt _ 4 0
    have h3:t3.2<4294967296:=by rw[← e3];exact Q.go_lt _ 4 0
    have g2:t1.1.bV iE 4=t2:=by rw[← e1,← e2];rfl
    have g3:t2.1.bV kq 4=t3:=by rw[← e2,← e3];rfl
    have g4:t3.1.bV jq 1=t4:=by rw[← e3,← e4];rfl
    have g5:t4.1.ah (if 1<t4.2 then 4 else 0)=s.1.jx.1:=by rw[← e4];rfl
    have g6:s.1.jx.2=⟨t1.2,t2.2,t3.2,((t4.2:Nat):Int) == 1⟩:=by rw[← e1,← e2,← e3,← e4];rfl
    have hnx:Q.gl Q.jx c.1 (i+1)=(s.1.jx.1,s.2++[s.1.jx.2]):=by rw[Q.gl,(aa HSi).1]
    have HG5:=ae (And.intro e1 (And.intro g2 (And.intro g3 (And.intro g4 g5))))
    have HG6:=ae (And.intro g6 hnx)
    have HR5:=ae (And.intro h1 (And.intro h2 h3))
    clear e1 e2 e3 e4 g2 g3 g4 g5 g6 hnx h1 h2 h3
    have HLW:=ae (Nat.le_trans (aa HLE) (Fr.size (aa HF4)))
    have hlo:=(aa HB4).lt
    have HX0:=ae (SX.start (aa HB4) (Fr.refl _ w4) (aa HLW) DG 161)
    clear hlo
    go_wp2_with (first|((with_reducible refine av 58 ?_);refine wpList_load_mid rfl 120 (.tmp 1) rfl w.heap.size 0 rfl _ _ (af (aa HX0).b0) Tryz.underlying120 rfl (by rw[(aa HX0).n];exact Tryz.al) ?_))
    refine(cG (aa HA) (aa HX0).fr (aa HQr) eI 4 (.inr (.inl rfl))).mono ?_
    rintro e wa51 ⟨Ra51,rfl,hQa,hfa⟩
    rw[(aa HG5).1] at hQa ⊢
    obtain⟨wb51,hst,hBb,hfb⟩:=((aa HX0).aD hfa).aU hQa
    have hw:=dq (aa HR5).1
    have HST:=ae hst
    have HB51b:=ae hBb
    have HQ51:=ae hQa
    clear hst hBb hfb hfa hQa HX0 HQr   
    have r0:=(aa HB51b).cell 0 _ rfl
    have z0:=(aa HB51b).ep 0
    have l0:=ab r0
    go_upto_region 16 with (first|((with_reducible refine aq ?_);refine ag rfl 120 (.tmp 1) (.tmp 60) rfl _ _ rfl rfl (aa HST) ?_))
    clear HST
    have HB52:Hid (SX w w4 _ w4.heap.size 33 Ra51 lR [.int .u32 (s1.2.1:Nat),.int .u32 (s1.2.2:Nat),.int .u8 (s2.2:Nat),.int .u32 (s3.2:Nat),.int .u32 (s4.2:Nat),.slice fo (q.a5 fi).2.1.length fc,.slice ho s.2.length hcp] 161 [.int .u32 (t1.2:Nat),.int .u32 0,.int .u32 0,.bool false]):=ae ((aa HB51b).bL 0 (.int .u32 (t1.2:Nat)))
    clear r0 z0 l0
    clear HB51b 
    clear hw
    go_wp2_with (first|((with_reducible refine av 66 ?_);refine wpList_load_mid rfl 120 (.tmp 1) rfl w.heap.size 0 rfl _ _ (af (aa HB52).b0) Tryz.underlying120 rfl (by rw[(aa HB52).n];exact Tryz.al) ?_))
    refine(cG (aa HA) (aa HB52).fr (aa HQ51) iE 4 (.inr (.inl rfl))).mono ?_
    rintro e wa53 ⟨Ra53,rfl,hQa,hfa⟩
    rw[(aa HG5).2.1] at hQa ⊢
    obtain⟨wb53,hst,hBb,hfb⟩:=((aa HB52).aD hfa).aU hQa
    have hw:=dq (aa HR5).2.1
    have HST:=ae hst
    have HB53b:=ae hBb
    have HQ53:=ae hQa
    clear hst hBb hfb hfa hQa HB52 HQ51   
    have r1:=(aa HB53b).cell 1 _ rfl
    have z1:=(aa HB53b).ep 1
    have l1:=ab r1
    go_upto_region 18 with (first|((with_reducible refine aq ?_);refine ag rfl 120 (.tmp 1) (.tmp 68) rfl _ _ rfl rfl (aa HST) ?_))
    clear HST
    have HB54:Hid (SX w w4 _ w4.heap.size 33 Ra53 lR [.int .u32 (s1.2.1:Nat),.int .u32 (s1.2.2:Nat),.int .u8 (s2.2:Nat),.int .u32 (s3.2:Nat),.int .u32 (s4.2:Nat),.slice fo (q.a5 fi).2.1.length fc,.slice ho s.2.length hcp] 161 [.int .u32 (t1.2:Nat),.int .u32 (t2.2:Nat),.int .u32 0,.bool false]):=ae ((aa HB53b).bL 1 (.int .u32 (t2.2:Nat)))
    clear r1 z1 l1
    clear HB53b 
    clear hw
    go_wp2_with (first|((with_reducible refine av 74 ?_);refine wpList_load_mid rfl 120 (.tmp 1) rfl w.heap.size 0 rfl _ _ (af (aa HB54).b0) Tryz.underlying120 rfl (by rw[(aa HB54).n];exact Tryz.al) ?_))
    refine(cG (aa HA) (aa HB54).fr (aa HQ53) kq 4 (.inr (.inl rfl))).mono ?_
    rintro e wa55 ⟨Ra55,rfl,hQa,hfa⟩
    rw[(aa HG5).2.2.1] at hQa ⊢
    obtain⟨wb55,hst,hBb,hfb⟩:=((aa HB54).aD hfa).aU hQa
    have hw:=dq (aa HR5).2.2
    have HST:=ae hst
    have HB55b:=ae hBb
    have HQ55:=ae hQa
    clear hst hBb hfb hfa hQa HB54 HQ53   
    have r2:=(aa HB55b).cell 2 _ rfl
    have z2:=(aa HB55b).ep 2
    have l2:=ab r2
    go_upto_region 20 with (first|((with_reducible refine aq ?_);refine ag rfl 120 (.tmp 1) (.tmp 76) rfl _ _ rfl rfl (aa HST) ?_))
    clear HST
    have HB56:Hid (SX w w4 _ w4.heap.size 33 Ra55 lR [.int .u32 (s1.2.1:Nat),.int .u32 (s1.2.2:Nat),.int .u8 (s2.2:Nat),.int .u32 (s3.2:Nat),.int .u32 (s4.2:Nat),.slice fo (q.a5 fi).2.1.length fc,.slice ho s.2.length hcp] 161 [.int .u32 (t1.2:Nat),.int .u32 (t2.2:Nat),.int .u32 (t3.2:Nat),.bool false]):=ae ((aa HB55b).bL 2 (.int .u32 (t3.2:Nat)))
    clear r2 z2 l2
    clear HB55b 
    clear hw
    go_wp2_with (first|((with_reducible refine av 82 ?_);refine wpList_load_mid rfl 120 (.tmp 1) rfl w.heap.size 0 rfl _ _ (af (aa HB56).b0) Tryz.underlying120 rfl (by rw[(aa HB56).n];exact Tryz.al) ?_))
    refine(cG (aa HA) (aa HB56).fr (aa HQ55) jq 1 (.inl rfl)).mono ?_
    rintro e wa57 ⟨Ra57,rfl,hQa,hfa⟩
    rw[(aa HG5).2.2.2.1] at hQa ⊢
    obtain⟨wb57,hst,hBb,hfb⟩:=((aa HB56).aD hfa).aU hQa
    have HST:=ae hst
    have HB57b:=ae hBb
    have HQ57:=ae hQa
    clear hst hBb hfb hfa hQa HB56 HQ55   
    go_upto_region 21 with (first|((with_reducible refine aq ?_);refine ag rfl 120 (.tmp 1) (.tmp 84) rfl _ _ rfl rfl (aa HST) ?_))
    clear HST
    have hfk:∀ so,(if so=true then 4 else 0)=(if 1<t4.2 then 4 else 0)→∀ w',Calls Tryz.prog 99 #[.agg Ra57.toArray,.bool so,.int .i64 (4:Nat)] w' fun e w''=>∃ R',e = .returned (.agg R'.toArray)∧QS s.1.jx.1 xo len xc all R'∧Fr (fun _=>False) w' w'':=fun so h w'=>by
     have hb:=dR (w':=w') (aa HA).hl (aa HQ57) so 4 _ (by decide) (by decide) h
     rw[(aa HG5).2.2.2.2] at hb
     exact hb
    have HK:=ae hfk
    clear hfk
    go_wp2_with (first|((with_reducible refine av 86 ?_);refine wpList_load_mid rfl 120 (.tmp 1) rfl w.heap.size 0 rfl _ _ (af (aa HB57b).b0) Tryz.underlying120 rfl (by rw[(aa HB57b).n];exact Tryz.al) ?_))
    refine((aa HK) _ Du _).mono ?_
    rintro e wg ⟨Rg,rfl,hQg,hfg⟩
    obtain⟨wh,hst,hBh,_⟩:=((aa HB57b).aD hfg).aU hQg
    have HST:=ae hst
    have HXh:=ae hBh
    have HQg:=ae hQg
    clear hst hBh hfg hQg HB57b HQ57 HK
    have r3:=(aa HXh).cell 3 _ rfl
    have z3:=(aa HXh).ep 3
    have l3:=ab r3
    go_upto_region 23 with (first|((with_reducible refine aq ?_);refine ag rfl 120 (.tmp 1) (.tmp 89) rfl _ _ rfl rfl (aa HST) ?_))
    clear HST
    have HB58:Hid (SX w w4 _ w4.heap.size 33 Rg lR [.int .u32 (s1.2.1:Nat),.int .u32 (s1.2.2:Nat),.int .u8 (s2.2:Nat),.int .u32 (s3.2:Nat),.int .u32 (s4.2:Nat),.slice fo (q.a5 fi).2.1.length fc,.slice ho s.2.length hcp] 161 [.int .u32 (t1.2:Nat),.int .u32 (t2.2:Nat),.int .u32 (t3.2:Nat),.bool (((t4.2:Nat):Int) == 1)]):=ae ((aa HXh).bL 3 (.bool (((t4.2:Nat):Int) == 1)))
    clear r3 z3 l3
    clear HXh 
    obtain⟨wz,hwz⟩:∃ x:World,wh.setCell ⟨w4.heap.size,3,none⟩ (.bool (((t4.2:Nat):Int) == 1))=x:=⟨_,rfl⟩
    rw[hwz] at HB58 ⊢
    clear hwz
    have HO5:=ae ((aa HO4).dc (S:=fun k=>k<w.heap.size+4∨w4.heap.size≤k) (aa HB58).fr8 (fun k hk=>by have:=aa HLE;omega))
    have hX:=aa HB58
    have hsz:=Fr.size hX.fr8
    have hsl:=Fr.size (aa HF4)
    have hLE:=aa HLE
    obtain⟨ao,cap,w9,hap,hO9,hf9⟩:=(aa HO5).app ⟨t1.2,t2.2,t3.2,((t4.2:Nat):Int) == 1⟩ (dG.okG _ _ _ _ (aa HR5).1 (aa HR5).2.1 (aa HR5).2.2) (by omega) (fun _ h=>h.elim) (by have:=(aa HSi).2;omega)
    have hown:∀ k,(Value.slice ho s.2.length hcp).ownBlock=some k→wb11.heap.size≤k:=fun k hk=>((aa HO4).row.lt k hk).1
    have hB9:=hX.bx.dc hf9 (fun k hk=>by have:=hown k hk;omega)
    have hF9:x7 (w.heap.size+4) wb11 w9:=((aa HF4).trans hX.fr8).step hf9 (fun k hk=>.inr (hown k hk))
    have r6:=hX.bx.cell 6 _ rfl
    have hl6:=hB9.lt
    have R6:=hB9.cell 6 _ rfl
    have Z6:=hB9.ep 6
    have HAP:=ae hap
    have HR8:=ae (af (cs:=[.int .u32 (t1.2:Nat),.int .u32 (t2.2:Nat),.int .u32 (t3.2:Nat),.bool (((t4.2:Nat):Int) == 1)]) hX.bb)
    have hB10:=hB9.bL 6 (.slice ao (s.2.length+1) cap)
    have hfz:Fr (fun k=>k=w.heap.size+1+1+1) w9 (w9.setCell ⟨w.heap.size+1+1+1,6,none⟩ (.slice ao (s.2.length+1) cap)):=(Fr.refl (fun k=>k=w.heap.size+1+1+1) w9).setCell (p:=⟨w.heap.size+1+1+1,6,none⟩) (.inl rfl) _
    have HX9:=ae (And.intro hB10 (And.intro (hF9.step hfz (fun k hk=>.inl (by omega))) (hO9.dc hfz (fun k hk=>.inl (by omega)))))
    clear hap hO9 hf9 hB9 hF9 hB10 hfz hX hsz hsl hown hLE HO5 HO4
    go_wp2_with (first|((with_reducible refine av 95 ?_);refine wpList_load_mid rfl 161 (.tmp 8) rfl w4.heap.size 0 rfl _ _ (aa HR8) Tryz.underlying161 rfl Tryz.A1 ?_)|((with_reducible refine av 97 ?_);refine pq rfl (.tmp 94) (.tmp 96) 31 31 rfl _ _ _ rfl rfl (aa HAP) ?_))
    go_roundw
    case rel=>exact⟨i+1,Rg,.slice ao (s.2.length+1) cap,by omega,by go_num,by rw[(aa HG6).2];exact(aa HQg),(aa HX9).1,(aa HX9).2.1,by rw[(aa HG6).2,(aa HG6).1];exact(aa HX9).2.2⟩
    case measure=>exact yO hlt
   ·rw[decide_eq_false hg]
    have hev:(q.qC fi i).aJ (.slice fo (q.a5 fi).2.1.length fc) (.slice ho s.2.length hcp)=([.int .u32 (s1.2.1:Nat),.int .u32 (s1.2.2:Nat),.int .u8 (s2.2:Nat),.int .u32 (s3.2:Nat),.int .u32 (s4.2:Nat),.slice fo (q.a5 fi).2.1.length fc,.slice ho s.2.length hcp]:List Value).toArray:=by
     simp only[Q.qC,hI.aJ]
     rw[(aa HE).1,(aa HE).2.1,(aa HE).2.2.1,(aa HE).2.2.2]
    have HV:=ae hev
    have h7:q.a7 fi i=s:=by
     show Q.gl Q.jx (q.a6 fi).1 i=s
     rw[(aa HC).1,(aa HSi).1]
    have HA7:=ae h7
    have hok:fi≤(q.a4.1.bT ak 32).2∧(fi=(q.a4.1.bT ak 32).2∨(q.a5 fi).1.f≠none):=by
     rw[(aa HE).2.2.2]
     exact aa HI
    have HOK:=ae hok
    clear hev h7 hok
    have HFD:=ae (((aa HFd) _ (aa HF4)))
    have HOD:=HO4
    go_wp2_with fail
    refine jJ (aa HB4) (aa HQr) rfl Tryz.iM (by simp[Value.oneCell']) _ Tryz.underlying33 rfl (by simp) (by simp) (by simp) (by simp) (by decide) (by decide) (by simp) (fun _ _ dst _ _ h=>by cases dst <;> exact h) (fun t' W2 p2 p3 hE hfe=>?_)
    have HE1:=ae hE
    have HF2:=ae hfe
    clear hE hfe
    go_wp2_with fail
    exact fq (aa HE1) (aa HQr).len _ Tryz.underlying33 rfl Tryz.iM rfl p2 p3 ⟨Rr,.slice fo (q.a5 fi).2.1.length fc,.slice ho s.2.length hcp,fi,i,by rw[aa HV],⟨aa HOK,by rw[(aa HC).1,(aa HC).2.1];exact hi,.inr (by rw[aa HA7];exact hg)⟩,by rw[aa HA7];exact aa HQr,((aa HFD).dc (aa HF2) (fun k hk=>.inl (by omega))).base (by omega),by rw[aa HA7];exact((aa HOD).dc (aa HF2) (fun k hk=>.inl (by have:=aa HLE;omega))).base (by have:=aa HLE;omega),(aa HE1).fr⟩
  ·have hic:i=cn:=by omega
   have hge:¬ (i:Int)<(cn:Int):=by omega
   have hev:(q.qC fi i).aJ (.slice fo (q.a5 fi).2.1.length fc) (.slice ho s.2.length hcp)=([.int .u32 (s1.2.1:Nat),.int .u32 (s1.2.2:Nat),.int .u8 (s2.2:Nat),.int .u32 (s3.2:Nat),.int .u32 (s4.2:Nat),.slice fo (q.a5 fi).2.1.length fc,.slice ho s.2.length hcp]:List Value).toArray:=by
    simp only[Q.qC,hI.aJ]
    rw[(aa HE).1,(aa HE).2.1,(aa HE).2.2.1,(aa HE).2.2.2]
   have HV:=ae hev
   have h7:q.a7 fi i=s:=by
    show Q.gl Q.jx (q.a6 fi).1 i=s
    rw[(aa HC).1,(aa HSi).1]
   have HA7:=ae h7
   have hok:fi≤(q.a4.1.bT ak 32).2∧(fi=(q.a4.1.bT ak 32).2∨(q.a5 fi).1.f≠none):=by
    rw[(aa HE).2.2.2]
    exact aa HI
   have HOK:=ae hok
   clear hev h7 hok
   have HFD:=ae (((aa HFd) _ (aa HFr)))
   have HOD:=HOr
   go_wp2_with fail
   refine jJ (aa HBr) (aa HQr) rfl Tryz.iM (by simp[Value.oneCell']) _ Tryz.underlying33 rfl (by simp) (by simp) (by simp) (by simp) (by decide) (by decide) (by simp) (fun _ _ dst _ _ h=>by cases dst <;> exact h) (fun t' W2 p2 p3 hE hfe=>?_)
   have HE1:=ae hE
   have HF2:=ae hfe
   clear hE hfe
   go_wp2_with fail
   exact fq (aa HE1) (aa HQr).len _ Tryz.underlying33 rfl Tryz.iM rfl p2 p3 ⟨Rr,.slice fo (q.a5 fi).2.1.length fc,.slice ho s.2.length hcp,fi,i,by rw[aa HV],⟨aa HOK,by rw[(aa HC).1,(aa HC).2.1];exact hi,.inl (by rw[(aa HC).1,(aa HC).2.1];exact hic)⟩,by rw[aa HA7];exact aa HQr,((aa HFD).dc (aa HF2) (fun k hk=>.inl (by omega))).base (by omega),by rw[aa HA7];exact((aa HOD).dc (aa HF2) (fun k hk=>.inl (by have:=aa HLE;omega))).base (by have:=aa HLE;omega),(aa HE1).fr⟩
theorem Tryz.jZ:(Tryz.prog.info? 40).map (·.size)=some 1:=by kernel_rfl
theorem kt {w:World} {x:Value} {l:List Nat} (h:Src w x l) {g o n c:Nat} (e:x = .slice (some ⟨g,o,none⟩) (n+1) c):g<w.heap.size:=by
 rcases h with ⟨h,_⟩|⟨g',o',c',hx,hc⟩|⟨a,c',h,_⟩
 ·rw[e] at h
  cases h
 ·rw[e] at hx
  simp only[Value.slice.injEq,Option.some.injEq,Addr.mk.injEq] at hx
  obtain⟨⟨rfl,rfl,_⟩,hl,_⟩:=hx
  cases l with
  | nil=>cases hl
  | cons a r=>exact ab (hc 0 _ rfl)
 ·rw[e] at h
  cases h
theorem nQ {w:World} {xo:Option Addr} {len xc:Nat} {all:List Nat} {R:List Value} {q:Q} (A:j9 w xo len xc all) (h:QS q xo len xc all R) :
  Calls Tryz.prog 64 #[.agg R.toArray] w fun e w'=>∃ R' y L j,e = .returned (.tuple #[.agg R'.toArray,.agg #[y]])∧q.Da j∧QS (q.p2 j).1 xo len xc all R'∧HL w' w.heap.size y L∧L.map HV.b=(q.p2 j).2∧(∀ x∈L,x.b.length≤32)∧Fr (fun _=>False) w w':=by
 have HA:=ae A
 have HQ:=ae h
 obtain⟨c,hc⟩:∃ c,q.p1=c:=⟨_,rfl⟩
 have hcl:c.2≤4096:=by rw[← hc];exact Q.fe _ _ 4096
 obtain⟨cn,hcn⟩:∃ x,c.2=x:=⟨_,rfl⟩
 rw[hcn] at hcl
 have g6:q.bT cm 4096=c:=hc
 have HC:=ae (And.intro hc (And.intro hcn g6))
 clear hc hcn g6
 obtain⟨ha,ho,last,rfl,hla⟩:=h
 rw[ei]
 have HB0:=ae (BX.start w 40 (q.rv xo len xc last).toList [.slice none 0 0] rfl)
 unfold Q.rv at HB0 ⊢
 clear ha ho hla A
 go_enter Tryz.func64,Tryz.ntmps64
 go_wp2_with fail
 refine(uG (aa HA) (u0 _ _ _ _ _) (aa HQ) cm 4096 (by decide)).mono ?_
 rintro e wa1 ⟨Ra1,rfl,hQa,hfa⟩
 rw[(aa HC).2.2] at hQa ⊢
 rw[(aa HC).2.1]
 obtain⟨wb1,hst,hBb,hfb⟩:=((aa HB0).aD hfa).aU hQa
 have HST:=ae hst
 have HB1b:=ae hBb
 have HQ1:=ae hQa
 clear hst hBb hfb hfa hQa HB0 HQ   
 go_upto_region 4 with (first|((with_reducible refine aq ?_);refine ag rfl 120 (.tmp 1) (.tmp 12) rfl _ _ rfl rfl (aa HST) ?_))
 clear HST
 go_loopw [6] (fun iv wr=>∃ (i:Nat) (R':List Value) (hv:Value) (L:List HV),i≤cn∧iv = .int .i64 (i:Nat)∧QS (Q.gl Q.AD c.1 i).1 xo len xc all R'∧BX w wr 40 R' [.slice none 0 0] [hv]∧HL wr (w.heap.size+4) hv L∧L.map HV.b=(Q.gl Q.AD c.1 i).2∧(∀ x∈L,x.b.length≤32)) (fun iv _=>cn - (intOf iv).toNat)
 case atStart=>exact⟨0,Ra1,.slice none 0 0,[],Nat.zero_le _,rfl,(aa HQ1),(aa HB1b),HL.nil _ _,rfl,fun _ h=>by cases h⟩
 case round =>
  obtain⟨i,Rr,hv,L,hi,rfl,hQ,hB,hH,hm,hb⟩:=hrel
  rename World=>wr
  clear HB1b HQ1
  obtain⟨s,hs⟩:∃ s,Q.gl Q.AD c.1 i=s:=⟨_,rfl⟩
  rw[hs] at hQ hm
  have hw1:=zO (n:=i) (by omega)
  have hln:L.length=i:=by
   have h1:=congrArg List.length hm
   rw[List.length_map] at h1
   rw[h1,← hs]
   exact Q.Ar _ _ _
  obtain⟨ho,hcp,rfl⟩:=cU hH.row
  have HQr:=ae hQ
  have HBr:=ae hB
  have HHr:=ae hH
  have HSi:=ae (And.intro hs (And.intro hln (And.intro hm hb)))
  clear hQ hB hH hs hln hm hb
  by_cases hlt:i<cn
  ·have hlt2:(i:Int)<(cn:Int):=by omega
   go_wp2_with (first|((with_reducible refine av 18 ?_);refine kC rfl 120 (.tmp 1) rfl w.heap.size 0 rfl _ _ (af (aa HBr).b0) Tryz.underlying120 rfl (by rw[(aa HBr).n];exact Tryz.al) ?_))
   refine(jn (aa HQr)).mono ?_
   rintro e w4 ⟨rfl,hf4⟩
   have HB4:=ae ((aa HBr).aD hf4)
   have HH4:=ae ((aa HHr).dc hf4 (fun _ h=>h.elim))
   clear hf4 HBr HHr
   by_cases hg:s.1.f=none
   ·rw[decide_eq_true hg]
    obtain⟨r,hr⟩:∃ r,s.1.AD=r:=⟨_,rfl⟩
    have hr':s.1.many bl 1 32=r:=hr
    have hrl:r.2.length≤32:=by rw[← hr];exact Q.dt _ bl 1 32
    have hnx:Q.gl Q.AD c.1 (i+1)=(r.1,s.2++[r.2]):=by rw[Q.gl,(aa HSi).1,hr]
    have HN:=ae (And.intro hnx (And.intro hr' hrl))
    clear hnx hr hr' hrl
    go_wp2_with (first|((with_reducible refine av 24 ?_);refine wpList_load_mid rfl 120 (.tmp 1) rfl w.heap.size 0 rfl _ _ (af (aa HB4).b0) Tryz.underlying120 rfl (by rw[(aa HB4).n];exact Tryz.al) ?_))
    refine(gB (aa HA) (aa HB4).fr (aa HQr) bl 1 32 (by decide)).mono ?_
    rintro e w5 ⟨R5,sx,sn,sc,rfl,hQ5,hs5,hn5,hf5⟩
    rw[(aa HN).2.1] at hQ5 hs5
    have hl4:=(aa HB4).lt
    have hB5:=(aa HB4).aD hf5
    have hH5:=(aa HH4).dc hf5 (fun _ h=>h.elim)
    have hlt5:=hB5.lt
    obtain⟨w7,hst7,hb7,hf7⟩:=bA (P:=Tryz.prog) (W:=w5.alloc (.cells oM.toArray 120)) (g:=w5.heap.size) (t:=120) (ty:=120) oM R5 (heap_alloc_new w5 _) (by rw[hQ5.len];rfl) (by rw[hQ5.len];exact Tryz.al) hQ5.one
    have hf57:Fr (fun k=>k=w5.heap.size) w5 w7:=((Fr.refl _ w5).alloc _).trans hf7 (fun k _ h=>h)
    have hB7:=hB5.dc hf57 (fun k hk=>by omega)
    have hH7:=hH5.dc hf57 (fun k hk=>by omega)
    obtain⟨w8,hst8,hB8,hf8⟩:=hB7.aU hQ5
    have hH8:=hH7.dc hf8 (fun k hk=>by omega)
    have hs8:Src w8 (.slice sx sn sc) r.2:=(hs5.yL hf57 (fun g o n c e hx=>by have:=kt hs5 e;omega)).yL hf8 (fun g o n c e hx=>by have:=hn5 g o _ c e;omega)
    have hown:∀ k,(Value.slice ho L.length hcp).ownBlock=some k→w.heap.size+4≤k∧k<w4.heap.size:=fun k hk=>(aa HH4).row.lt k hk
    obtain⟨ao,cap,w9,hap,hH9,hf9⟩:=hH8.add (by have:=hB8.lt;omega) (HV.mk r.2 (.slice sx sn sc)) hs8 (fun g o n c e=>⟨by have:=hn5 g o _ c e;omega,kt hs8 e,fun hx=>by have:=hown g hx;have:=hn5 g o _ c e;omega⟩) (by have:=(aa HSi).2.1;omega)
    have hB9:=hB8.dc hf9 (fun k hk=>by have:=hown k hk;omega)
    have r0:=hB8.cell 0 _ rfl
    have hl6:=hB9.lt
    have R0:=hB9.cell 0 _ rfl
    have Z0:=hB9.ep 0
    have HAP:=ae hap
    have HS7:=ae hst7
    have HS8:=ae hst8
    have HR7:=ae (af hb7)
    have hl7:=hQ5.len
    have hB10:=hB9.bL 0 (.slice ao (L.length+1) cap)
    have hfz:Fr (fun k=>k=w.heap.size+1+1+1) w9 (w9.setCell ⟨w.heap.size+1+1+1,0,none⟩ (.slice ao (L.length+1) cap)):=(Fr.refl (fun k=>k=w.heap.size+1+1+1) w9).setCell (p:=⟨w.heap.size+1+1+1,0,none⟩) (.inl rfl) _
    have hm2:(L++[HV.mk r.2 (.slice sx sn sc)]).map HV.b=s.2++[r.2]:=by rw[List.map_append,(aa HSi).2.2.1];rfl
    have hb2:∀ x∈L++[HV.mk r.2 (.slice sx sn sc)],x.b.length≤32:=fun x hx=>by
     rcases List.mem_append.1 hx with hx|hx
     ·exact(aa HSi).2.2.2 x hx
     ·rw[List.mem_singleton] at hx
      rw[hx]
      exact(aa HN).2.2
    have HX9:=ae (And.intro hQ5 (And.intro hB10 (And.intro (hH9.dc hfz (fun k hk=>.inl (by omega))) (And.intro hm2 hb2))))
    clear hst7 hst8 hb7 hf57 hf7 hf8 hB5 hH5 hB7 hH7 hB8 hH8 hap hH9 hf9 hB9 hB10 hfz hm2 hb2 hQ5 hf5 hs5 hs8 hn5 hown HH4 hl4 hlt5
    go_wp2_with (first|((with_reducible refine aq ?_);refine ag rfl 120 (.tmp 7) (.tmp 26) rfl _ _ rfl rfl (aa HS7) ?_)|((with_reducible refine av 28 ?_);refine wpList_load_mid rfl 120 (.tmp 7) rfl w5.heap.size 0 rfl _ _ (aa HR7) Tryz.underlying120 rfl (by rw[hl7];exact Tryz.al) ?_)|((with_reducible refine aq ?_);refine ag rfl 120 (.tmp 1) (.tmp 28) rfl _ _ rfl rfl (aa HS8) ?_)|((with_reducible refine av 33 ?_);refine pq rfl (.tmp 30) (.tmp 32) 38 38 rfl _ _ _ rfl rfl (aa HAP) ?_))
    go_roundw
    case rel=>exact⟨i+1,R5,.slice ao (L.length+1) cap,L++[HV.mk r.2 (.slice sx sn sc)],by omega,by go_num,by rw[(aa HN).1];exact(aa HX9).1,(aa HX9).2.1,(aa HX9).2.2.1,by rw[(aa HN).1];exact(aa HX9).2.2.2.1,(aa HX9).2.2.2.2⟩
    case measure=>exact yO hlt
   ·rw[decide_eq_false hg]
    have h7:q.p2 i=s:=by
     show Q.gl Q.AD q.p1.1 i=s
     rw[(aa HC).1,(aa HSi).1]
    have HA7:=ae h7
    clear h7
    have HHD:=HH4
    go_wp2_with fail
    refine jJ (aa HB4) (aa HQr) rfl Tryz.jZ (by simp[Value.oneCell']) _ Tryz.underlying40 rfl (by simp) (by simp) (by simp) (by simp) (by decide) (by decide) (by simp) (fun _ _ dst _ _ h=>by cases dst <;> exact h) (fun t' W2 p2 p3 hE hfe=>?_)
    have HE1:=ae hE
    have HF2:=ae hfe
    clear hE hfe
    go_wp2_with fail
    exact fq (aa HE1) (aa HQr).len _ Tryz.underlying40 rfl Tryz.jZ rfl p2 p3 ⟨Rr,.slice ho L.length hcp,L,i,rfl,⟨by rw[(aa HC).1,(aa HC).2.1];exact hi,.inr (by rw[aa HA7];exact hg)⟩,by rw[aa HA7];exact aa HQr,((aa HHD).dc (aa HF2) (fun k hk=>.inl (by omega))).base (by omega),by rw[aa HA7];exact(aa HSi).2.2.1,(aa HSi).2.2.2,(aa HE1).fr⟩
  ·have hic:i=cn:=by omega
   have hge:¬ (i:Int)<(cn:Int):=by omega
   have h7:q.p2 i=s:=by
    show Q.gl Q.AD q.p1.1 i=s
    rw[(aa HC).1,(aa HSi).1]
   have HA7:=ae h7
   clear h7
   have HHD:=HHr
   go_wp2_with fail
   refine jJ (aa HBr) (aa HQr) rfl Tryz.jZ (by simp[Value.oneCell']) _ Tryz.underlying40 rfl (by simp) (by simp) (by simp) (by simp) (by decide) (by decide) (by simp) (fun _ _ dst _ _ h=>by cases dst <;> exact h) (fun t' W2 p2 p3 hE hfe=>?_)
   have HE1:=ae hE
   have HF2:=ae hfe
   clear hE hfe
   go_wp2_with fail
   exact fq (aa HE1) (aa HQr).len _ Tryz.underlying40 rfl Tryz.jZ rfl p2 p3 ⟨Rr,.slice ho L.length hcp,L,i,rfl,⟨by rw[(aa HC).1,(aa HC).2.1];exact hi,.inl (by rw[(aa HC).1,(aa HC).2.1];exact hic)⟩,by rw[aa HA7];exact aa HQr,((aa HHD).dc (aa HF2) (fun k hk=>.inl (by omega))).base (by omega),by rw[aa HA7];exact(aa HSi).2.2.1,(aa HSi).2.2.2,(aa HE1).fr⟩
theorem Tryz.db:(Tryz.prog.info? 42).map (·.size)=some 35:=by kernel_rfl
theorem Tryz.vG:(Tryz.prog.info? 27).map (·.size)=some 2:=by kernel_rfl
def yT:List Value:=[.int .u8 0,.int .u32 0,.int .u32 0,.int .u32 0,.int .u8 0,.int .u32 0,.int .u32 0,.int .u32 0,.int .u32 0,.slice none 0 0,.string ⟨#[]⟩,.int .u32 0,.int .u32 0,.int .u32 0,.int .u32 0,.int .u8 0,.int .u32 0,.int .u32 0,.slice none 0 0,.slice none 0 0,.int .u8 0,.int .u32 0,.int .u32 0,.int .u32 0,.int .u32 0,.int .u8 0,.int .u32 0,.int .u32 0,.int .u32 0,.int .u32 0,.slice none 0 0,.string ⟨#[]⟩,.int .u8 0,.slice none 0 0,.int .u32 0]
def mz (k:Nat):List Value:=[.int .u8 (k:Nat),.int .u32 0,.int .u32 0,.int .u32 0,.int .u8 0,.int .u32 0,.int .u32 0,.int .u32 0,.int .u32 0,.slice none 0 0,.string ⟨#[]⟩,.int .u32 0,.int .u32 0,.int .u32 0,.int .u32 0,.int .u8 0,.int .u32 0,.int .u32 0,.slice none 0 0,.slice none 0 0,.int .u8 0,.int .u32 0,.int .u32 0,.int .u32 0,.int .u32 0,.int .u8 0,.int .u32 0,.int .u32 0,.int .u32 0,.int .u32 0,.slice none 0 0,.string ⟨#[]⟩,.int .u8 0,.slice none 0 0,.int .u32 0]
theorem jh (k:Nat):∀ v∈mz k,v.oneCell'=true:=List.all_eq_true.1 (show List.all (mz k) (fun v=>v.oneCell')=true from rfl)
theorem C2 (a:Array Value):a.toList.toArray=a:=by simp
theorem iH {w:World} {x:Value} {l:List Nat} (h:Src w x l):x.oneCell'=true:=by
 obtain⟨xo,xc,e⟩:=h.form
 rw[e]
 rfl
theorem jb (g t:Nat):∀ (vs olds pre post:List Value) (o:Nat) (w:World),w.heap[g]?=some (.cells (pre++(olds++post)).toArray t)→olds.length=vs.length→pre.length=o→(w.setCells g o vs).heap[g]?=some (.cells (pre++(vs++post)).toArray t)
 | [],olds,pre,post,o,w,h,hl,_=>by
  obtain rfl:=List.eq_nil_of_length_eq_zero hl
  exact h
 | v::vs,[],pre,post,o,w,h,hl,_=>by cases hl
 | v::vs,a::olds,pre,post,o,w,h,hl,ho=>by
  rw[World.setCells]
  have:=jb g t vs olds (pre++[v]) post (o+1) (w.setCell ⟨g,o,none⟩ v) (by rw[ke h];subst ho;simp) (by simpa using hl) (by simp[ho])
  simpa using this
def AO (V:List Value) (o:Nat) (news:List Value):List Value:=V.take o++(news++V.drop (o+news.length))
theorem jL {V news:List Value} {o:Nat} (h:∀ v∈V,v.oneCell'=true) (k:∀ v∈news,v.oneCell'=true):∀ v∈AO V o news,v.oneCell'=true:=fun v hv=>by
 rcases List.mem_append.1 hv with hv|hv
 ·exact h v (List.mem_of_mem_take hv)
 ·rcases List.mem_append.1 hv with hv|hv
  ·exact k v hv
  ·exact h v (List.mem_of_mem_drop hv)
theorem vF {V:List Value} {i:Nat} {u:Value} (h:∀ v∈V,v.oneCell'=true) (k:u.oneCell'=true):∀ v∈V.set i u,v.oneCell'=true:=fun v hv=>by
 rcases List.mem_or_eq_of_mem_set hv with hv|rfl
 ·exact h v hv
 ·exact k
theorem vU {P:Program} {W:World} {g t ty o:Nat} (V news:List Value) (hb:W.heap[g]?=some (.cells V.toArray t)) (hl:o+news.length≤V.length) (hi:(P.info? ty).map (·.size)=some news.length) (h1:∀ v∈news,v.oneCell'=true) :
  ∃ W8,(Instr.storeAt ty (.pointer (some ⟨g,o,none⟩)) (.agg news.toArray)).run P W = .ok () W8∧W8.heap[g]?=some (.cells (AO V o news).toArray t)∧Fr (fun k=>k=g) W W8:=by
 refine⟨W.setCells g o news,run_storeAt_mid W g o ty news.toArray (fun j hj=>?_) (by simpa using hi) (all_oneCell_toArray h1),?_,fV g news o W⟩
 ·have hj:j<news.length:=by simpa using hj
  refine⟨?_,by simp[World.frozen?,hb]⟩
  have:o+j<V.length:=by omega
  simp[World.cell?,hb,this]
 ·have e:V=V.take o++((V.drop o).take news.length++V.drop (o+news.length)):=by
   rw[← List.drop_drop,List.take_append_drop,List.take_append_drop]
  exact jb g t news ((V.drop o).take news.length) (V.take o) (V.drop (o+news.length)) o W (by rw[← e];exact hb) (by simp;omega) (by simp;omega)
theorem BX.zN {w W:World} {T:TypeId} {R Z V:List Value} (h:BX w W T R Z V) (U:TypeId) (o:Nat) (news:List Value) (hl:o+news.length≤V.length) (hi:(Tryz.prog.info? U).map (·.size)=some news.length) (h1:∀ v∈news,v.oneCell'=true) :
  ∃ W',(Instr.storeAt U (.pointer (some ⟨w.heap.size+1+1+1,o,none⟩)) (.agg news.toArray)).run Tryz.prog W = .ok () W'∧BX w W' T R Z (AO V o news)∧Fr (fun k=>k=w.heap.size+1+1+1) W W':=by
 have hlt:=h.lt
 obtain⟨W',e1,h2,h3⟩:=vU (P:=Tryz.prog) (ty:=U) (o:=o) V news h.b3 hl hi h1
 exact⟨W',e1,⟨(h3.block _ (by omega) (fun h=>by omega)).trans h.b0,(h3.block _ (by omega) (fun h=>by omega)).trans h.b1,(h3.block _ (by omega) (fun h=>by omega)).trans h.b2,h2,h.fr.trans h3 (fun k hk e=>by omega),h.n⟩,h3⟩
structure sK (w:World) (base:Nat) (v:eS) (y0 y1 y2 y3 y4:Value):Prop where
 o0:dy w base y0 v.rq.fs (fun _=>False)
 o1:dy w base y1 v.an.fs (fun _=>False)
 o2:gd w base y2 v.an.hi (fun _=>False)
 o3:dy w base y3 v.ev.rq.fs (fun _=>False)
 o4:Src w y4 v.ev.dg
 g4:∀ g o n c,y4 = .slice (some ⟨g,o,none⟩) (n+1) c→base≤g
 l4:v.ev.dg.length≤32
theorem sK.base {w:World} {base base':Nat} {v:eS} {y0 y1 y2 y3 y4:Value} (h:sK w base v y0 y1 y2 y3 y4) (hb:base'≤base):sK w base' v y0 y1 y2 y3 y4:=⟨h.o0.base hb,h.o1.base hb,h.o2.base hb,h.o3.base hb,h.o4,fun g o n c e=>Nat.le_trans hb (h.g4 g o n c e),h.l4⟩
theorem sK.dc {w w':World} {base:Nat} {v:eS} {y0 y1 y2 y3 y4:Value} {S:Nat→Prop} (h:sK w base v y0 y1 y2 y3 y4) (hf:Fr S w w') (hS:∀ k,S k→k<base∨w.heap.size≤k):sK w' base v y0 y1 y2 y3 y4:=
 ⟨h.o0.dc hf hS,h.o1.dc hf hS,h.o2.dc hf hS,h.o3.dc hf hS,h.o4.yL hf (fun g o n c e hx=>by have:=h.g4 g o n c e;have:=kt h.o4 e;have:=hS g hx;omega),h.g4,h.l4⟩
theorem mT (w:World) (base:Nat):dy w base (.slice none 0 0) [] (fun _=>False):=dy.nil _ _ _
theorem CV (w:World):Src w (.slice none 0 0) []:=.inl ⟨rfl,rfl⟩
theorem sK.none (w:World) (base:Nat) (v:eS) (h0:v.rq.fs=[]) (h1:v.an.fs=[]) (h2:v.an.hi=[]) (h3:v.ev.rq.fs=[]) (h4:v.ev.dg=[]):sK w base v (.slice none 0 0) (.slice none 0 0) (.slice none 0 0) (.slice none 0 0) (.slice none 0 0):=
 ⟨by rw[h0];exact mT _ _,by rw[h1];exact mT _ _,by rw[h2];exact gd.nil _ _ _,by rw[h3];exact mT _ _,by rw[h4];exact CV _,fun g o n c e=>by (cases e),by rw[h4];exact Nat.zero_le _⟩
theorem lx {w:World} {xo:Option Addr} {len xc:Nat} {all:List Nat} {R:List Value} {q:Q} (A:j9 w xo len xc all) (h:QS q xo len xc all R) :
  Calls Tryz.prog 65 #[.agg R.toArray] w fun e w'=>∃ R' y0 y1 y2 y3 y4 i j,e = .returned (.tuple #[.agg R'.toArray,.agg ((q.iJ i j).2.aJ y0 y1 y2 y3 y4)])∧q.yN.Cn q.m1.2 i j∧QS (q.iJ i j).1 xo len xc all R'∧sK w' w.heap.size (q.iJ i j).2 y0 y1 y2 y3 y4∧Fr (fun _=>False) w w':=by
 have HA:=ae A
 have HQ:=ae h
 obtain⟨s1,e1⟩:∃ x,q.m1=x:=⟨_,rfl⟩
 obtain⟨q1,e2⟩:∃ x,q.yN=x:=⟨_,rfl⟩
 obtain⟨k,ek⟩:∃ x,s1.2=x:=⟨_,rfl⟩
 have hk8:k<256:=by rw[← ek,← e1];exact Q.go_lt _ 1 0
 have g1:q.bV bj 1=s1:=e1
 have g2:s1.1.ah (bI 1 7 5 k)=q1:=by rw[← ek,← e2,← e1];rfl
 have g3:∀ i j,q.iJ i j=q1.gM k i j:=fun i j=>by unfold Q.iJ;rw[e2,e1,ek]
 have g4:∀ i j,q.yN.Cn q.m1.2 i j↔q1.Cn k i j:=fun i j=>by rw[e2,e1,ek]
 have HG:=ae (And.intro g1 (And.intro ek g2))
 have HM:=ae (And.intro g3 g4)
 clear e1 e2 ek g1 g2 g3 g4
 obtain⟨ha,ho,last,rfl,hla⟩:=h
 rw[ei]
 have HB0:=ae (BX.start w 42 (q.rv xo len xc last).toList yT rfl)
 unfold Q.rv at HB0 ⊢
 clear ha ho hla A
 go_enter Tryz.func65,Tryz.ntmps65
 go_wp2_with fail
 refine(cG (aa HA) (u0 _ _ _ _ _) (aa HQ) bj 1 (.inl rfl)).mono ?_
 rintro e wa1 ⟨Ra1,rfl,hQa,hfa⟩
 rw[(aa HG).1] at hQa ⊢
 rw[(aa HG).2.1]
 obtain⟨wb1,hst,hBb,hfb⟩:=((aa HB0).aD hfa).aU hQa
 have HST:=ae hst
 have HB1b:=ae hBb
 have HQ1:=ae hQa
 clear hst hBb hfb hfa hQa HB0 HQ   
 go_upto_region 3 with (first|((with_reducible refine aq ?_);refine ag rfl 120 (.tmp 1) (.tmp 9) rfl _ _ rfl rfl (aa HST) ?_))
 clear HST
 go_cut [] from 11 to 18 (fun wx=>∃ R',QS q1 xo len xc all R'∧BX w wx 42 R' yT yT)
 case first =>
  have hfk:∀ so,(if so=true then 5 else 0)=bI 1 7 5 k→∀ w',Calls Tryz.prog 99 #[.agg Ra1.toArray,.bool so,.int .i64 (5:Nat)] w' fun e w''=>∃ R',e = .returned (.agg R'.toArray)∧QS q1 xo len xc all R'∧Fr (fun _=>False) w' w'':=fun so h w'=>by
   have hb:=dR (w':=w') (aa HA).hl (aa HQ1) so 5 _ (by decide) (by decide) h
   rw[(aa HG).2.2] at hb
   exact hb
  have HK:=ae hfk
  clear hfk
  rcases(by omega:k<1∨7<k∨(1≤k∧k≤7)) with h3|h3|⟨h3,h4⟩
  ·have c1:decide ((k:Int)<1)=true:=decide_eq_true (by omega)
   have c2:decide (7<(k:Int))=false:=decide_eq_false (by omega)
   have c3:decide ((k:Int) > 7)=false:=decide_eq_false (by omega)
   go_wp2_with (first|((with_reducible refine av 11 ?_);refine wpList_load_mid rfl 120 (.tmp 1) rfl w.heap.size 0 rfl _ _ (af (aa HB1b).b0) Tryz.underlying120 rfl (by rw[(aa HB1b).n];exact Tryz.al) ?_))
   refine((aa HK) _ (by simp[bI];omega) _).mono ?_
   rintro e wg ⟨Rg,rfl,hQg,hfg⟩
   obtain⟨wh,hst,hBh,_⟩:=((aa HB1b).aD hfg).aU hQg
   have HST:=ae hst
   have HX:=ae (And.intro hQg hBh)
   clear hst hQg hBh hfg
   go_wp2_with (first|((with_reducible refine aq ?_);refine ag rfl 120 (.tmp 1) (.tmp 18) rfl _ _ rfl rfl (aa HST) ?_))
   go_meet
   case rel=>exact⟨Rg,(aa HX).1,(aa HX).2⟩
  ·have c1:decide ((k:Int)<1)=false:=decide_eq_false (by omega)
   have c2:decide (7<(k:Int))=true:=decide_eq_true (by omega)
   have c3:decide ((k:Int) > 7)=true:=decide_eq_true (by omega)
   go_wp2_with (first|((with_reducible refine av 11 ?_);refine wpList_load_mid rfl 120 (.tmp 1) rfl w.heap.size 0 rfl _ _ (af (aa HB1b).b0) Tryz.underlying120 rfl (by rw[(aa HB1b).n];exact Tryz.al) ?_))
   refine((aa HK) _ (by simp[bI];omega) _).mono ?_
   rintro e wg ⟨Rg,rfl,hQg,hfg⟩
   obtain⟨wh,hst,hBh,_⟩:=((aa HB1b).aD hfg).aU hQg
   have HST:=ae hst
   have HX:=ae (And.intro hQg hBh)
   clear hst hQg hBh hfg
   go_wp2_with (first|((with_reducible refine aq ?_);refine ag rfl 120 (.tmp 1) (.tmp 18) rfl _ _ rfl rfl (aa HST) ?_))
   go_meet
   case rel=>exact⟨Rg,(aa HX).1,(aa HX).2⟩
  ·have c1:decide ((k:Int)<1)=false:=decide_eq_false (by omega)
   have c2:decide (7<(k:Int))=false:=decide_eq_false (by omega)
   have c3:decide ((k:Int) > 7)=false:=decide_eq_false (by omega)
   go_wp2_with (first|((with_reducible refine av 11 ?_);refine wpList_load_mid rfl 120 (.tmp 1) rfl w.heap.size 0 rfl _ _ (af (aa HB1b).b0) Tryz.underlying120 rfl (by rw[(aa HB1b).n];exact Tryz.al) ?_))
   refine((aa HK) _ (by simp[bI];omega) _).mono ?_
   rintro e wg ⟨Rg,rfl,hQg,hfg⟩
   obtain⟨wh,hst,hBh,_⟩:=((aa HB1b).aD hfg).aU hQg
   have HST:=ae hst
   have HX:=ae (And.intro hQg hBh)
   clear hst hQg hBh hfg
   go_wp2_with (first|((with_reducible refine aq ?_);refine ag rfl 120 (.tmp 1) (.tmp 18) rfl _ _ rfl rfl (aa HST) ?_))
   go_meet
   case rel=>exact⟨Rg,(aa HX).1,(aa HX).2⟩
 case rest =>
  obtain⟨Rc,hQc,hBc⟩:=hcut
  rename World=>wc
  clear HB1b HQ1
  have HQc:=ae hQc
  have hw:=pZ hk8
  have r0:=hBc.cell 0 _ rfl
  have z0:=hBc.ep 0
  have l0:=ab r0
  have HB:Hid (BX w _ 42 Rc yT (mz k)):=ae (hBc.bL 0 (.int .u8 (k:Nat)))
  clear hQc hBc
  go_upto_region 5 with fail
  clear hw r0 z0 l0
  rcases(by omega:k=1∨k=2∨k=3∨k=4∨k=5∨k=6∨(k≠1∧k≠2∧k≠3∧k≠4∧k≠5∧k≠6)) with hk1|hk2|hk3|hk4|hk5|hk6|⟨hk1,hk2,hk3,hk4,hk5,hk6⟩
  ·have HGM:=ae (show ∀ i j,q.iJ i j=(q1.sQ i,{ ib with kd:=1,rq:=q1.gK i }) from fun i j=>((aa HM).1 i j).trans (by unfold Q.gM;rw[if_pos hk1]))
   have HKK:=ae (show k=1 by omega)
   have e1:((k:Int) == 1)=true:=by simp;omega
   have e2:((k:Int) == 2)=false:=by simp;omega
   have e3:((k:Int) == 3)=false:=by simp;omega
   have e4:((k:Int) == 4)=false:=by simp;omega
   have e5:((k:Int) == 5)=false:=by simp;omega
   have e6:((k:Int) == 6)=false:=by simp;omega
   clear hk8 hk1
   go_wp2_with (first|((with_reducible refine av 25 ?_);refine wpList_load_mid rfl 120 (.tmp 1) rfl w.heap.size 0 rfl _ _ (af (aa HB).b0) Tryz.underlying120 rfl (by rw[(aa HB).n];exact Tryz.al) ?_))
   refine(eX ((aa HA).aD (aa HB).fr) (aa HQc)).mono ?_
   rintro e wa ⟨Rz,fv,fi,rfl,hok,hQa,hOa,hfa⟩
   have hlo:=(aa HB).lt
   obtain⟨wb,hst,hBb,hfb⟩:=((aa HB).aD hfa).aU hQa
   have eo0:=aS hOa.row
   have hone:∀ v∈(((q1.gK fi).aJ fv).toList:List Value),v.oneCell'=true:=List.all_eq_true.1 (show List.all (((q1.gK fi).aJ fv).toList:List Value) (fun v=>v.oneCell')=true by simp[Value.oneCell',ed.aJ];exact eo0)
   obtain⟨wc2,hst2,hBc2,hfc⟩:=hBb.zN 30 1 (((q1.gK fi).aJ fv).toList) (show 1+10≤35 by decide) Tryz.fS hone
   rw[C2] at hst2
   have hbc:=(hfb.mono (T:=fun k=>k=w.heap.size∨k=w.heap.size+1+1+1) (fun _ _ h=>.inl h)).trans hfc (fun _ _ h=>.inr h)
   have hon:=jL (o:=1) (jh k) hone
   have HO:=ae ((hOa.base (base':=w.heap.size+4) (by have:=(aa HB).lt;omega)).dc hbc (fun k hk=>.inl (by omega)))
   have HOK:=ae (((aa HM).2 fi 0).2 ⟨fun _=>hok,fun h=>absurd h (by have:=aa HKK;omega),fun h=>absurd h (by have:=aa HKK;omega)⟩)
   have HS1:=ae hst
   have HS2:=ae hst2
   have HBZ:=ae hBc2
   have HQZ:=ae hQa
   have HON:=ae hon
   clear hst hst2 hBb hBc2 hfa hfb hfc hbc hone hon hlo hQa HB HQc hOa hok
   go_upto_region 21 with (first|((with_reducible refine aq ?_);refine ag rfl 120 (.tmp 1) (.tmp 27) rfl _ _ rfl rfl (aa HS1) ?_)|((with_reducible refine aq ?_);refine ag rfl 30 (.tmp 29) (.tmp 28) rfl _ _ rfl rfl (aa HS2) ?_))
   clear HS1 HS2
   have hev:(q.iJ fi 0).2.aJ (fv) (.slice none 0 0) (.slice none 0 0) (.slice none 0 0) (.slice none 0 0)=((AO (mz k) 1 (((q1.gK fi).aJ fv).toList))).toArray:=by
    rw[aa HGM,aa HKK]
    rfl
   have HV:=ae hev
   clear hev
   have HOD:=HO
   refine jJ (aa HBZ) (aa HQZ) rfl Tryz.db (aa HON) _ Tryz.underlying42 rfl (by simp) (by simp) (by simp) (by simp) (by decide) (by decide) (by simp) (fun _ _ dst _ _ h=>by cases dst <;> exact h) (fun t' W2 p2 p3 hE hfe=>?_)
   have HE1:=ae hE
   have HF2:=ae hfe
   clear hE hfe
   go_wp2_with fail
   exact fq (aa HE1) (aa HQZ).len _ Tryz.underlying42 rfl Tryz.db rfl p2 p3 ⟨Rz,fv,.slice none 0 0,.slice none 0 0,.slice none 0 0,.slice none 0 0,fi,0,by rw[aa HV],aa HOK,by rw[aa HGM];exact aa HQZ,by rw[aa HGM];exact⟨((aa HOD).dc (aa HF2) (fun k hk=>.inl (by omega))).base (by omega),mT _ _,gd.nil _ _ _,mT _ _,CV _,fun g o n c e=>by (cases e),Nat.zero_le _⟩,(aa HE1).fr⟩
  ·have hk1:¬ k=1:=by omega
   have HGM:=ae (show ∀ i j,q.iJ i j=(q1.gid.1,{ ib with kd:=2,icl:=q1.gid.2.1,inu:=q1.gid.2.2 }) from fun i j=>((aa HM).1 i j).trans (by unfold Q.gM;rw[if_neg hk1,if_pos hk2]))
   have HKK:=ae (show k=2 by omega)
   have e1:((k:Int) == 1)=false:=by simp;omega
   have e2:((k:Int) == 2)=true:=by simp;omega
   have e3:((k:Int) == 3)=false:=by simp;omega
   have e4:((k:Int) == 4)=false:=by simp;omega
   have e5:((k:Int) == 5)=false:=by simp;omega
   have e6:((k:Int) == 6)=false:=by simp;omega
   clear hk8 hk1 hk2
   go_wp2_with (first|((with_reducible refine av 37 ?_);refine wpList_load_mid rfl 120 (.tmp 1) rfl w.heap.size 0 rfl _ _ (af (aa HB).b0) Tryz.underlying120 rfl (by rw[(aa HB).n];exact Tryz.al) ?_))
   refine(jM (aa HA) (aa HB).fr (aa HQc)).mono ?_
   rintro e wa ⟨Rz,rfl,hQa,hfa⟩
   have hlo:=(aa HB).lt
   obtain⟨wb,hst,hBb,hfb⟩:=((aa HB).aD hfa).aU hQa
   have hone:∀ v∈([.int .u32 (q1.gid.2.1:Nat),.int .u32 (q1.gid.2.2:Nat)]:List Value),v.oneCell'=true:=List.all_eq_true.1 (show List.all ([.int .u32 (q1.gid.2.1:Nat),.int .u32 (q1.gid.2.2:Nat)]:List Value) (fun v=>v.oneCell')=true by simp[Value.oneCell'])
   obtain⟨wc2,hst2,hBc2,hfc⟩:=hBb.zN 27 11 ([.int .u32 (q1.gid.2.1:Nat),.int .u32 (q1.gid.2.2:Nat)]) (show 11+2≤35 by decide) Tryz.vG hone
   have hbc:=(hfb.mono (T:=fun k=>k=w.heap.size∨k=w.heap.size+1+1+1) (fun _ _ h=>.inl h)).trans hfc (fun _ _ h=>.inr h)
   have hon:=jL (o:=11) (jh k) hone
   have HOK:=ae (((aa HM).2 0 0).2 ⟨fun h=>absurd h (by have:=aa HKK;omega),fun h=>absurd h (by have:=aa HKK;omega),fun h=>absurd h (by have:=aa HKK;omega)⟩)
   have HS1:=ae hst
   have HS2:=ae hst2
   have HBZ:=ae hBc2
   have HQZ:=ae hQa
   have HON:=ae hon
   clear hst hst2 hBb hBc2 hfa hfb hfc hbc hone hon hlo hQa HB HQc 
   go_upto_region 21 with (first|((with_reducible refine aq ?_);refine ag rfl 120 (.tmp 1) (.tmp 39) rfl _ _ rfl rfl (aa HS1) ?_)|((with_reducible refine aq ?_);refine ag rfl 27 (.tmp 41) (.tmp 40) rfl _ _ rfl rfl (aa HS2) ?_))
   clear HS1 HS2
   have hev:(q.iJ 0 0).2.aJ (.slice none 0 0) (.slice none 0 0) (.slice none 0 0) (.slice none 0 0) (.slice none 0 0)=((AO (mz k) 11 ([.int .u32 (q1.gid.2.1:Nat),.int .u32 (q1.gid.2.2:Nat)]))).toArray:=by
    rw[aa HGM,aa HKK]
    rfl
   have HV:=ae hev
   clear hev
   refine jJ (aa HBZ) (aa HQZ) rfl Tryz.db (aa HON) _ Tryz.underlying42 rfl (by simp) (by simp) (by simp) (by simp) (by decide) (by decide) (by simp) (fun _ _ dst _ _ h=>by cases dst <;> exact h) (fun t' W2 p2 p3 hE hfe=>?_)
   have HE1:=ae hE
   have HF2:=ae hfe
   clear hE hfe
   go_wp2_with fail
   exact fq (aa HE1) (aa HQZ).len _ Tryz.underlying42 rfl Tryz.db rfl p2 p3 ⟨Rz,.slice none 0 0,.slice none 0 0,.slice none 0 0,.slice none 0 0,.slice none 0 0,0,0,by rw[aa HV],aa HOK,by rw[aa HGM];exact aa HQZ,by rw[aa HGM];exact sK.none _ _ _ rfl rfl rfl rfl rfl,(aa HE1).fr⟩
  ·have hk1:¬ k=1:=by omega
   have hk2:¬ k=2:=by omega
   have HGM:=ae (show ∀ i j,q.iJ i j=((q1.a7 i j).1,{ ib with kd:=3,an:=q1.qC i j }) from fun i j=>((aa HM).1 i j).trans (by unfold Q.gM;rw[if_neg hk1,if_neg hk2,if_pos hk3]))
   have HKK:=ae (show k=3 by omega)
   have e1:((k:Int) == 1)=false:=by simp;omega
   have e2:((k:Int) == 2)=false:=by simp;omega
   have e3:((k:Int) == 3)=true:=by simp;omega
   have e4:((k:Int) == 4)=false:=by simp;omega
   have e5:((k:Int) == 5)=false:=by simp;omega
   have e6:((k:Int) == 6)=false:=by simp;omega
   clear hk8 hk1 hk2 hk3
   go_wp2_with (first|((with_reducible refine av 45 ?_);refine wpList_load_mid rfl 120 (.tmp 1) rfl w.heap.size 0 rfl _ _ (af (aa HB).b0) Tryz.underlying120 rfl (by rw[(aa HB).n];exact Tryz.al) ?_))
   refine(gX ((aa HA).aD (aa HB).fr) (aa HQc)).mono ?_
   rintro e wa ⟨Rz,fv,hv,fi,fj,rfl,hok,hQa,hOa,hZa,hfa⟩
   have hlo:=(aa HB).lt
   obtain⟨wb,hst,hBb,hfb⟩:=((aa HB).aD hfa).aU hQa
   have eo0:=aS hOa.row
   have eo1:=aS hZa.row
   have hone:∀ v∈(((q1.qC fi fj).aJ fv hv).toList:List Value),v.oneCell'=true:=List.all_eq_true.1 (show List.all (((q1.qC fi fj).aJ fv hv).toList:List Value) (fun v=>v.oneCell')=true by simp[Value.oneCell',hI.aJ];exact⟨eo0,eo1⟩)
   obtain⟨wc2,hst2,hBc2,hfc⟩:=hBb.zN 33 13 (((q1.qC fi fj).aJ fv hv).toList) (show 13+7≤35 by decide) Tryz.iM hone
   rw[C2] at hst2
   have hbc:=(hfb.mono (T:=fun k=>k=w.heap.size∨k=w.heap.size+1+1+1) (fun _ _ h=>.inl h)).trans hfc (fun _ _ h=>.inr h)
   have hon:=jL (o:=13) (jh k) hone
   have HO:=ae ((hOa.base (base':=w.heap.size+4) (by have:=(aa HB).lt;omega)).dc hbc (fun k hk=>.inl (by omega)))
   have HZ:=ae ((hZa.base (base':=w.heap.size+4) (by have:=(aa HB).lt;omega)).dc hbc (fun k hk=>.inl (by omega)))
   have HOK:=ae (((aa HM).2 fi fj).2 ⟨fun h=>absurd h (by have:=aa HKK;omega),fun _=>hok,fun h=>absurd h (by have:=aa HKK;omega)⟩)
   have HS1:=ae hst
   have HS2:=ae hst2
   have HBZ:=ae hBc2
   have HQZ:=ae hQa
   have HON:=ae hon
   clear hst hst2 hBb hBc2 hfa hfb hfc hbc hone hon hlo hQa HB HQc hOa hZa hok
   go_upto_region 21 with (first|((with_reducible refine aq ?_);refine ag rfl 120 (.tmp 1) (.tmp 47) rfl _ _ rfl rfl (aa HS1) ?_)|((with_reducible refine aq ?_);refine ag rfl 33 (.tmp 49) (.tmp 48) rfl _ _ rfl rfl (aa HS2) ?_))
   clear HS1 HS2
   have hev:(q.iJ fi fj).2.aJ (.slice none 0 0) (fv) (hv) (.slice none 0 0) (.slice none 0 0)=((AO (mz k) 13 (((q1.qC fi fj).aJ fv hv).toList))).toArray:=by
    rw[aa HGM,aa HKK]
    rfl
   have HV:=ae hev
   clear hev
   have HOD:=HO
   have HZD:=HZ
   refine jJ (aa HBZ) (aa HQZ) rfl Tryz.db (aa HON) _ Tryz.underlying42 rfl (by simp) (by simp) (by simp) (by simp) (by decide) (by decide) (by simp) (fun _ _ dst _ _ h=>by cases dst <;> exact h) (fun t' W2 p2 p3 hE hfe=>?_)
   have HE1:=ae hE
   have HF2:=ae hfe
   clear hE hfe
   go_wp2_with fail
   exact fq (aa HE1) (aa HQZ).len _ Tryz.underlying42 rfl Tryz.db rfl p2 p3 ⟨Rz,.slice none 0 0,fv,hv,.slice none 0 0,.slice none 0 0,fi,fj,by rw[aa HV],aa HOK,by rw[aa HGM];exact aa HQZ,by rw[aa HGM];exact⟨mT _ _,((aa HOD).dc (aa HF2) (fun k hk=>.inl (by omega))).base (by omega),((aa HZD).dc (aa HF2) (fun k hk=>.inl (by omega))).base (by omega),mT _ _,CV _,fun g o n c e=>by (cases e),Nat.zero_le _⟩,(aa HE1).fr⟩
  ·have hk1:¬ k=1:=by omega
   have hk2:¬ k=2:=by omega
   have hk3:¬ k=3:=by omega
   have HGM:=ae (show ∀ i j,q.iJ i j=(q1.mb.1,{ ib with kd:=4,icl:=q1.gid.2.1,inu:=q1.gid.2.2,co:=q1.mb.2 }) from fun i j=>((aa HM).1 i j).trans (by unfold Q.gM;rw[if_neg hk1,if_neg hk2,if_neg hk3,if_pos hk4]))
   have HKK:=ae (show k=4 by omega)
   have e1:((k:Int) == 1)=false:=by simp;omega
   have e2:((k:Int) == 2)=false:=by simp;omega
   have e3:((k:Int) == 3)=false:=by simp;omega
   have e4:((k:Int) == 4)=true:=by simp;omega
   have e5:((k:Int) == 5)=false:=by simp;omega
   have e6:((k:Int) == 6)=false:=by simp;omega
   clear hk8 hk1 hk2 hk3 hk4
   obtain⟨s2,e2⟩:∃ x,q1.gid=x:=⟨_,rfl⟩
   obtain⟨s3,e3⟩:∃ x,s2.1.bV eY 1=x:=⟨_,rfl⟩
   obtain⟨bz,ebz⟩:∃ x,s3.2=x:=⟨_,rfl⟩
   obtain⟨q3,e3f⟩:∃ x,s3.1.ah (bI 1 15 4 bz)=x:=⟨_,rfl⟩
   have hbz:bz<256:=by rw[← ebz,← e3];exact Q.go_lt _ 1 0
   have emb:q1.mb=(q3,bz):=by unfold Q.mb;rw[e2,e3,ebz,e3f]
   have H2:=ae (And.intro e2 (And.intro e3 (And.intro ebz (And.intro e3f emb))))
   clear e2 e3 ebz e3f emb
   go_wp2_with (first|((with_reducible refine av 37 ?_);refine wpList_load_mid rfl 120 (.tmp 1) rfl w.heap.size 0 rfl _ _ (af (aa HB).b0) Tryz.underlying120 rfl (by rw[(aa HB).n];exact Tryz.al) ?_))
   refine(jM (aa HA) (aa HB).fr (aa HQc)).mono ?_
   rintro e wa ⟨Rz,rfl,hQa,hfa⟩
   rw[(aa H2).1] at hQa ⊢
   have hlo:=(aa HB).lt
   obtain⟨wb,hst,hBb,hfb⟩:=((aa HB).aD hfa).aU hQa
   have hone:∀ v∈([.int .u32 (s2.2.1:Nat),.int .u32 (s2.2.2:Nat)]:List Value),v.oneCell'=true:=List.all_eq_true.1 (show List.all ([.int .u32 (s2.2.1:Nat),.int .u32 (s2.2.2:Nat)]:List Value) (fun v=>v.oneCell')=true by simp[Value.oneCell'])
   obtain⟨wc2,hst2,hBc2,hfc⟩:=hBb.zN 27 11 ([.int .u32 (s2.2.1:Nat),.int .u32 (s2.2.2:Nat)]) (show 11+2≤35 by decide) Tryz.vG hone
   have hbc:=(hfb.mono (T:=fun k=>k=w.heap.size∨k=w.heap.size+1+1+1) (fun _ _ h=>.inl h)).trans hfc (fun _ _ h=>.inr h)
   have hon:=jL (o:=11) (jh k) hone
   have HOK:=ae (((aa HM).2 0 0).2 ⟨fun h=>absurd h (by have:=aa HKK;omega),fun h=>absurd h (by have:=aa HKK;omega),fun h=>absurd h (by have:=aa HKK;omega)⟩)
   have HS1:=ae hst
   have HS2:=ae hst2
   have HBZ:=ae hBc2
   have HQZ:=ae hQa
   have HON:=ae hon
   clear hst hst2 hBb hBc2 hfa hfb hfc hbc hone hon hlo hQa HB HQc 
   go_upto_region 12 with (first|((with_reducible refine aq ?_);refine ag rfl 120 (.tmp 1) (.tmp 39) rfl _ _ rfl rfl (aa HS1) ?_)|((with_reducible refine aq ?_);refine ag rfl 27 (.tmp 41) (.tmp 40) rfl _ _ rfl rfl (aa HS2) ?_))
   clear HS1 HS2
   go_wp2_with (first|((with_reducible refine av 53 ?_);refine wpList_load_mid rfl 120 (.tmp 1) rfl w.heap.size 0 rfl _ _ (af (aa HBZ).b0) Tryz.underlying120 rfl (by rw[(aa HBZ).n];exact Tryz.al) ?_))
   refine(cG (aa HA) (aa HBZ).fr (aa HQZ) eY 1 (.inl rfl)).mono ?_
   rintro e we ⟨Re,rfl,hQe,hfe⟩
   rw[(aa H2).2.1] at hQe ⊢
   rw[(aa H2).2.2.1]
   obtain⟨wf,hst,hBf,_⟩:=((aa HBZ).aD hfe).aU hQe
   have HST:=ae hst
   have HBf:=ae hBf
   have HQf:=ae hQe
   clear hst hBf hfe hQe HBZ HQZ
   go_upto_region 13 with (first|((with_reducible refine aq ?_);refine ag rfl 120 (.tmp 1) (.tmp 55) rfl _ _ rfl rfl (aa HST) ?_))
   clear HST
   go_cut [] from 57 to 64 (fun wx=>∃ R',QS q3 xo len xc all R'∧BX w wx 42 R' yT (AO (mz k) 11 ([.int .u32 (s2.2.1:Nat),.int .u32 (s2.2.2:Nat)])))
   case first =>
    have hfk:∀ so,(if so=true then 4 else 0)=bI 1 15 4 bz→∀ w',Calls Tryz.prog 99 #[.agg Re.toArray,.bool so,.int .i64 (4:Nat)] w' fun e w''=>∃ R',e = .returned (.agg R'.toArray)∧QS q3 xo len xc all R'∧Fr (fun _=>False) w' w'':=fun so h w'=>by
     have hb:=dR (w':=w') (aa HA).hl (aa HQf) so 4 _ (by decide) (by decide) h
     rw[(aa H2).2.2.2.1] at hb
     exact hb
    have HK:=ae hfk
    clear hfk
    rcases(by omega:bz<1∨15<bz∨(1≤bz∧bz≤15)) with h3|h3|⟨h3,h4⟩
    ·have c1:decide ((bz:Int)<1)=true:=decide_eq_true (by omega)
     have c2:decide (15<(bz:Int))=false:=decide_eq_false (by omega)
     have c3:decide ((bz:Int) > 15)=false:=decide_eq_false (by omega)
     go_wp2_with (first|((with_reducible refine av 57 ?_);refine wpList_load_mid rfl 120 (.tmp 1) rfl w.heap.size 0 rfl _ _ (af (aa HBf).b0) Tryz.underlying120 rfl (by rw[(aa HBf).n];exact Tryz.al) ?_))
     refine((aa HK) _ (by simp[bI];omega) _).mono ?_
     rintro e wg ⟨Rg,rfl,hQg,hfg⟩
     obtain⟨wh,hst,hBh,_⟩:=((aa HBf).aD hfg).aU hQg
     have HST:=ae hst
     have HX:=ae (And.intro hQg hBh)
     clear hst hQg hBh hfg
     go_wp2_with (first|((with_reducible refine aq ?_);refine ag rfl 120 (.tmp 1) (.tmp 64) rfl _ _ rfl rfl (aa HST) ?_))
     go_meet
     case rel=>exact⟨Rg,(aa HX).1,(aa HX).2⟩
    ·have c1:decide ((bz:Int)<1)=false:=decide_eq_false (by omega)
     have c2:decide (15<(bz:Int))=true:=decide_eq_true (by omega)
     have c3:decide ((bz:Int) > 15)=true:=decide_eq_true (by omega)
     go_wp2_with (first|((with_reducible refine av 57 ?_);refine wpList_load_mid rfl 120 (.tmp 1) rfl w.heap.size 0 rfl _ _ (af (aa HBf).b0) Tryz.underlying120 rfl (by rw[(aa HBf).n];exact Tryz.al) ?_))
     refine((aa HK) _ (by simp[bI];omega) _).mono ?_
     rintro e wg ⟨Rg,rfl,hQg,hfg⟩
     obtain⟨wh,hst,hBh,_⟩:=((aa HBf).aD hfg).aU hQg
     have HST:=ae hst
     have HX:=ae (And.intro hQg hBh)
     clear hst hQg hBh hfg
     go_wp2_with (first|((with_reducible refine aq ?_);refine ag rfl 120 (.tmp 1) (.tmp 64) rfl _ _ rfl rfl (aa HST) ?_))
     go_meet
     case rel=>exact⟨Rg,(aa HX).1,(aa HX).2⟩
    ·have c1:decide ((bz:Int)<1)=false:=decide_eq_false (by omega)
     have c2:decide (15<(bz:Int))=false:=decide_eq_false (by omega)
     have c3:decide ((bz:Int) > 15)=false:=decide_eq_false (by omega)
     go_wp2_with (first|((with_reducible refine av 57 ?_);refine wpList_load_mid rfl 120 (.tmp 1) rfl w.heap.size 0 rfl _ _ (af (aa HBf).b0) Tryz.underlying120 rfl (by rw[(aa HBf).n];exact Tryz.al) ?_))
     refine((aa HK) _ (by simp[bI];omega) _).mono ?_
     rintro e wg ⟨Rg,rfl,hQg,hfg⟩
     obtain⟨wh,hst,hBh,_⟩:=((aa HBf).aD hfg).aU hQg
     have HST:=ae hst
     have HX:=ae (And.intro hQg hBh)
     clear hst hQg hBh hfg
     go_wp2_with (first|((with_reducible refine aq ?_);refine ag rfl 120 (.tmp 1) (.tmp 64) rfl _ _ rfl rfl (aa HST) ?_))
     go_meet
     case rel=>exact⟨Rg,(aa HX).1,(aa HX).2⟩
   case rest =>
    obtain⟨Rz,hQd,hBd0⟩:=hcut
    rename World=>wd
    clear HBf HQf
    have HQZ:=ae hQd
    have hw:=pZ hbz
    have r20:=hBd0.cell 20 _ rfl
    have z20:=hBd0.ep 20
    have l20:=ab r20
    have HBZ:=ae (hBd0.bL 20 (.int .u8 (bz:Nat)))
    have HON2:=ae (vF (i:=20) (u:=.int .u8 (bz:Nat)) (aa HON) rfl)
    clear hQd hBd0 HON
    have HON:=HON2
    clear HON2
    go_upto_region 15 with fail
    clear hw hbz r20 z20 l20
    have hev:(q.iJ 0 0).2.aJ (.slice none 0 0) (.slice none 0 0) (.slice none 0 0) (.slice none 0 0) (.slice none 0 0)=(((AO (mz k) 11 ([.int .u32 (s2.2.1:Nat),.int .u32 (s2.2.2:Nat)])).set 20 (.int .u8 (bz:Nat)))).toArray:=by
     rw[aa HGM,(aa H2).1,(aa H2).2.2.2.2,aa HKK]
     rfl
    have HV:=ae hev
    clear hev
    have HQ2:=ae (show QS q1.mb.1 xo len xc all Rz by rw[(aa H2).2.2.2.2];exact aa HQZ)
    refine jJ (aa HBZ) (aa HQZ) rfl Tryz.db (aa HON) _ Tryz.underlying42 rfl (by simp) (by simp) (by simp) (by simp) (by decide) (by decide) (by simp) (fun _ _ dst _ _ h=>by cases dst <;> exact h) (fun t' W2 p2 p3 hE hfe=>?_)
    have HE1:=ae hE
    have HF2:=ae hfe
    clear hE hfe
    go_wp2_with fail
    exact fq (aa HE1) (aa HQZ).len _ Tryz.underlying42 rfl Tryz.db rfl p2 p3 ⟨Rz,.slice none 0 0,.slice none 0 0,.slice none 0 0,.slice none 0 0,.slice none 0 0,0,0,by rw[aa HV],aa HOK,by rw[aa HGM];exact aa HQ2,by rw[aa HGM];exact sK.none _ _ _ rfl rfl rfl rfl rfl,(aa HE1).fr⟩
  ·have hk1:¬ k=1:=by omega
   have hk2:¬ k=2:=by omega
   have hk3:¬ k=3:=by omega
   have hk4:¬ k=4:=by omega
   have HGM:=ae (show ∀ i j,q.iJ i j=((q1.v5 i).1,{ ib with kd:=5,ev:=q1.sJ i }) from fun i j=>((aa HM).1 i j).trans (by unfold Q.gM;rw[if_neg hk1,if_neg hk2,if_neg hk3,if_neg hk4,if_pos hk5]))
   have HKK:=ae (show k=5 by omega)
   have e1:((k:Int) == 1)=false:=by simp;omega
   have e2:((k:Int) == 2)=false:=by simp;omega
   have e3:((k:Int) == 3)=false:=by simp;omega
   have e4:((k:Int) == 4)=false:=by simp;omega
   have e5:((k:Int) == 5)=true:=by simp;omega
   have e6:((k:Int) == 6)=false:=by simp;omega
   clear hk8 hk1 hk2 hk3 hk4 hk5
   go_wp2_with (first|((with_reducible refine av 73 ?_);refine wpList_load_mid rfl 120 (.tmp 1) rfl w.heap.size 0 rfl _ _ (af (aa HB).b0) Tryz.underlying120 rfl (by rw[(aa HB).n];exact Tryz.al) ?_))
   refine(jg ((aa HA).aD (aa HB).fr) (aa HQc)).mono ?_
   rintro e wa ⟨Rz,fv,dv,fi,rfl,hok,hQa,hOa,hSa,hna,hfa⟩
   have hdl:(q1.v5 fi).2.length≤32:=Q.dt _ eb 1 32
   have hlo:=(aa HB).lt
   obtain⟨wb,hst,hBb,hfb⟩:=((aa HB).aD hfa).aU hQa
   have eo0:=aS hOa.row
   have eo1:=iH hSa
   have hone:∀ v∈(((q1.sJ fi).aJ fv dv).toList:List Value),v.oneCell'=true:=List.all_eq_true.1 (show List.all (((q1.sJ fi).aJ fv dv).toList:List Value) (fun v=>v.oneCell')=true by simp[Value.oneCell',iW.aJ];exact⟨eo0,eo1⟩)
   obtain⟨wc2,hst2,hBc2,hfc⟩:=hBb.zN 35 21 (((q1.sJ fi).aJ fv dv).toList) (show 21+13≤35 by decide) Tryz.lE hone
   rw[C2] at hst2
   have hbc:=(hfb.mono (T:=fun k=>k=w.heap.size∨k=w.heap.size+1+1+1) (fun _ _ h=>.inl h)).trans hfc (fun _ _ h=>.inr h)
   have hon:=jL (o:=21) (jh k) hone
   have hlB:=(aa HB).lt
   have HO:=ae ((hOa.base (base':=w.heap.size+4) (by omega)).dc hbc (fun k hk=>.inl (by omega)))
   have hnb:∀ g o m c,dv = .slice (some ⟨g,o,none⟩) m c→w.heap.size+4≤g:=fun g o m c e=>by have:=hna g o m c e;omega
   have HS:=ae (And.intro (hSa.fr hbc (fun g o m c e hx=>by have:=hnb g o m c e;omega)) (And.intro hnb hdl))
   have HOK:=ae (((aa HM).2 fi 0).2 ⟨fun h=>absurd h (by have:=aa HKK;omega),fun h=>absurd h (by have:=aa HKK;omega),fun _=>hok⟩)
   have HS1:=ae hst
   have HS2:=ae hst2
   have HBZ:=ae hBc2
   have HQZ:=ae hQa
   have HON:=ae hon
   clear hst hst2 hBb hBc2 hfa hfb hfc hbc hone hon hlo hQa HB HQc hOa hok hSa hna hdl hnb hlB
   go_upto_region 21 with (first|((with_reducible refine aq ?_);refine ag rfl 120 (.tmp 1) (.tmp 75) rfl _ _ rfl rfl (aa HS1) ?_)|((with_reducible refine aq ?_);refine ag rfl 35 (.tmp 77) (.tmp 76) rfl _ _ rfl rfl (aa HS2) ?_))
   clear HS1 HS2
   have hev:(q.iJ fi 0).2.aJ (.slice none 0 0) (.slice none 0 0) (.slice none 0 0) (fv) (dv)=((AO (mz k) 21 (((q1.sJ fi).aJ fv dv).toList))).toArray:=by
    rw[aa HGM,aa HKK]
    rfl
   have HV:=ae hev
   clear hev
   have HOD:=HO
   have HSD:=ae (aa HS).1
   refine jJ (aa HBZ) (aa HQZ) rfl Tryz.db (aa HON) _ Tryz.underlying42 rfl (by simp) (by simp) (by simp) (by simp) (by decide) (by decide) (by simp) (fun _ _ dst _ _ h=>by cases dst <;> exact h) (fun t' W2 p2 p3 hE hfe=>?_)
   have HE1:=ae hE
   have HF2:=ae hfe
   clear hE hfe
   go_wp2_with fail
   exact fq (aa HE1) (aa HQZ).len _ Tryz.underlying42 rfl Tryz.db rfl p2 p3 ⟨Rz,.slice none 0 0,.slice none 0 0,.slice none 0 0,fv,dv,fi,0,by rw[aa HV],aa HOK,by rw[aa HGM];exact aa HQZ,by rw[aa HGM];exact⟨mT _ _,mT _ _,gd.nil _ _ _,((aa HOD).dc (aa HF2) (fun k hk=>.inl (by omega))).base (by omega),(aa HSD).fr (aa HF2) (fun g o m c e hx=>by have:=(aa HS).2.1 g o m c e;omega),fun g o n c e=>by have:=(aa HS).2.1 g o _ c e;omega,(aa HS).2.2⟩,(aa HE1).fr⟩
  ·have hk1:¬ k=1:=by omega
   have hk2:¬ k=2:=by omega
   have hk3:¬ k=3:=by omega
   have hk4:¬ k=4:=by omega
   have hk5:¬ k=5:=by omega
   have HGM:=ae (show ∀ i j,q.iJ i j=((q1.bV cR 4).1,{ ib with kd:=6,le:=(q1.bV cR 4).2 }) from fun i j=>((aa HM).1 i j).trans (by unfold Q.gM;rw[if_neg hk1,if_neg hk2,if_neg hk3,if_neg hk4,if_neg hk5,if_pos hk6]))
   have HKK:=ae (show k=6 by omega)
   have e1:((k:Int) == 1)=false:=by simp;omega
   have e2:((k:Int) == 2)=false:=by simp;omega
   have e3:((k:Int) == 3)=false:=by simp;omega
   have e4:((k:Int) == 4)=false:=by simp;omega
   have e5:((k:Int) == 5)=false:=by simp;omega
   have e6:((k:Int) == 6)=true:=by simp;omega
   clear hk8 hk1 hk2 hk3 hk4 hk5 hk6
   have hle:(q1.bV cR 4).2<4294967296:=Q.go_lt _ 4 0
   obtain⟨s2,e2⟩:∃ x,q1.bV cR 4=x:=⟨_,rfl⟩
   rw[e2] at hle
   have H2:=ae e2
   clear e2
   go_wp2_with (first|((with_reducible refine av 81 ?_);refine wpList_load_mid rfl 120 (.tmp 1) rfl w.heap.size 0 rfl _ _ (af (aa HB).b0) Tryz.underlying120 rfl (by rw[(aa HB).n];exact Tryz.al) ?_))
   refine(cG (aa HA) (aa HB).fr (aa HQc) cR 4 (.inr (.inl rfl))).mono ?_
   rintro e wa ⟨Rz,rfl,hQa,hfa⟩
   rw[aa H2] at hQa ⊢
   obtain⟨wb,hst,hBb,hfb⟩:=((aa HB).aD hfa).aU hQa
   have hw:=dq hle
   have r34:=hBb.cell 34 _ rfl
   have z34:=hBb.ep 34
   have l34:=ab r34
   have HS1:=ae hst
   have HQZ:=ae hQa
   have HON:=ae (vF (i:=34) (u:=.int .u32 (s2.2:Nat)) (jh k) rfl)
   have HBZ:=ae (hBb.bL 34 (.int .u32 (s2.2:Nat)))
   clear hst hBb hfb hfa hQa HB HQc
   go_upto_region 21 with (first|((with_reducible refine aq ?_);refine ag rfl 120 (.tmp 1) (.tmp 83) rfl _ _ rfl rfl (aa HS1) ?_))
   clear HS1 hw hle r34 z34 l34
   have HOK:=ae (((aa HM).2 0 0).2 ⟨fun h=>absurd h (by have:=aa HKK;omega),fun h=>absurd h (by have:=aa HKK;omega),fun h=>absurd h (by have:=aa HKK;omega)⟩)
   have hev:(q.iJ 0 0).2.aJ (.slice none 0 0) (.slice none 0 0) (.slice none 0 0) (.slice none 0 0) (.slice none 0 0)=(((mz k).set 34 (.int .u32 (s2.2:Nat)))).toArray:=by
    rw[aa HGM,aa H2,aa HKK]
    rfl
   have HV:=ae hev
   clear hev
   refine jJ (aa HBZ) (aa HQZ) rfl Tryz.db (aa HON) _ Tryz.underlying42 rfl (by simp) (by simp) (by simp) (by simp) (by decide) (by decide) (by simp) (fun _ _ dst _ _ h=>by cases dst <;> exact h) (fun t' W2 p2 p3 hE hfe=>?_)
   have HE1:=ae hE
   have HF2:=ae hfe
   clear hE hfe
   go_wp2_with fail
   exact fq (aa HE1) (aa HQZ).len _ Tryz.underlying42 rfl Tryz.db rfl p2 p3 ⟨Rz,.slice none 0 0,.slice none 0 0,.slice none 0 0,.slice none 0 0,.slice none 0 0,0,0,by rw[aa HV],aa HOK,by rw[aa HGM,aa H2];exact aa HQZ,by rw[aa HGM];exact sK.none _ _ _ rfl rfl rfl rfl rfl,(aa HE1).fr⟩
  ·have HGM:=ae (show ∀ i j,q.iJ i j=(q1,{ ib with kd:=k }) from fun i j=>((aa HM).1 i j).trans (by unfold Q.gM;rw[if_neg hk1,if_neg hk2,if_neg hk3,if_neg hk4,if_neg hk5,if_neg hk6]))
   have HKK:=ae (show k≠1∧k≠3∧k≠5 by omega)
   have e1:((k:Int) == 1)=false:=by simp;omega
   have e2:((k:Int) == 2)=false:=by simp;omega
   have e3:((k:Int) == 3)=false:=by simp;omega
   have e4:((k:Int) == 4)=false:=by simp;omega
   have e5:((k:Int) == 5)=false:=by simp;omega
   have e6:((k:Int) == 6)=false:=by simp;omega
   clear hk8 hk1 hk2 hk3 hk4 hk5 hk6
   have HOK:=ae (((aa HM).2 0 0).2 ⟨fun h=>absurd h (by have:=aa HKK;omega),fun h=>absurd h (by have:=aa HKK;omega),fun h=>absurd h (by have:=aa HKK;omega)⟩)
   have HBZ:=HB
   have HQZ:=HQc
   have HON:=ae (jh k)
   clear HB HQc
   obtain⟨Rz,hrz⟩:∃ x,Rc=x:=⟨_,rfl⟩
   subst hrz
   go_upto_region 21 with fail
   have hev:(q.iJ 0 0).2.aJ (.slice none 0 0) (.slice none 0 0) (.slice none 0 0) (.slice none 0 0) (.slice none 0 0)=((mz k)).toArray:=by
    rw[aa HGM]
    rfl
   have HV:=ae hev
   clear hev
   refine jJ (aa HBZ) (aa HQZ) rfl Tryz.db (aa HON) _ Tryz.underlying42 rfl (by simp) (by simp) (by simp) (by simp) (by decide) (by decide) (by simp) (fun _ _ dst _ _ h=>by cases dst <;> exact h) (fun t' W2 p2 p3 hE hfe=>?_)
   have HE1:=ae hE
   have HF2:=ae hfe
   clear hE hfe
   go_wp2_with fail
   exact fq (aa HE1) (aa HQZ).len _ Tryz.underlying42 rfl Tryz.db rfl p2 p3 ⟨Rc,.slice none 0 0,.slice none 0 0,.slice none 0 0,.slice none 0 0,.slice none 0 0,0,0,by rw[aa HV],aa HOK,by rw[aa HGM];exact aa HQZ,by rw[aa HGM];exact sK.none _ _ _ rfl rfl rfl rfl rfl,(aa HE1).fr⟩
theorem dy.DS {w:World} {base:Nat} {x:Value} {l l':List cA} (h:dy w base x l (fun _=>False)) (e:l'=l) (hn:l'.length<9223372036854775808):kh w x l':=by
 subst e
 exact h.AA hn
theorem CF (q:Q) (i:Nat):(q.v5 i).2.length≤32:=(q.v4 i).1.dt eb 1 32
theorem oE (q:Q):q.cQ.2.2.length≤32:=(q.bV dC 4).1.dt fZ 1 32
theorem qZ (q:Q):q.bk.2.2.2.length≤32768:=(q.cQ.1.bV ey 4).1.dt bH 0 32768
theorem pk (q:Q):q.bk.2.1.2.length≤32:=oE q
theorem tt {k:Nat} {l:List Nat} {i base:Nat} {W:World} {y:Value} (hk:k=1) (hok:(Q.begun l k).sP i) (hf:((Q.begun l k).sQ i).f=none) (hO:dy W base y ((Q.begun l k).r8 i).2.1 (fun _=>False)):DK k l W (aY 0 (((Q.begun l k).gK i).aJ y).toList):=by
 subst hk
 have e:=rL hok hf
 generalize Q.begun l 1=a at *
 have hn:=(kS l).2
 rw[← e]
 show gh l W _
 exact⟨y,rfl,hO.DS (by rw[e];rfl) hn⟩
theorem wH {k:Nat} {l:List Nat} {i j base:Nat} {W:World} {y z:Value} (hk:k=2) (hok:(Q.begun l k).CT i j) (hf:((Q.begun l k).a7 i j).1.f=none) (hO:dy W base y ((Q.begun l k).a5 i).2.1 (fun _=>False)) (hZ:gd W base z ((Q.begun l k).a7 i j).2 (fun _=>False)):DK k l W (aY 10 (((Q.begun l k).qC i j).aJ y z).toList):=by
 subst hk
 have e:=sU hok hf
 generalize Q.begun l 2=a at *
 have hn:=(jo l).2
 rw[← e]
 show iT l W _
 refine⟨y,z,rfl,hO.DS (by rw[e];rfl) hn.1,?_⟩
 have e2:(a.a7 i j).2=(aM l).2.hi:=by rw[e];rfl
 rw[e2] at hZ
 exact hZ.DE hn.2
theorem y7 {k:Nat} {l:List Nat} {i base:Nat} {W:World} {y z:Value} (hk:k=3) (hok:(Q.begun l k).v2.1.sP i) (hf:((Q.begun l k).v5 i).1.f=none) (hO:dy W base y ((Q.begun l k).v2.1.r8 i).2.1 (fun _=>False)) (hS:Src W z ((Q.begun l k).v5 i).2):DK k l W (aY 17 (((Q.begun l k).sJ i).aJ y z).toList):=by
 subst hk
 have e:=wD hok hf
 generalize Q.begun l 3=a at *
 have hn:=(kg l).2
 have hl:(a.v5 i).2.length≤32:=CF _ i
 have e2:(aQ l).2.dg=(a.v5 i).2:=by rw[e];rfl
 have e3:(aQ l).2.rq.fs=(a.v2.1.r8 i).2.1:=by rw[e];rfl
 rw[← e]
 show tY l W _
 exact⟨y,z,rfl,hO.DS e3 hn.1,by rw[e2];exact hS,by rw[e2];omega⟩
theorem Cb {k:Nat} {l:List Nat} {W:World} {y:Value} (hk:k=4) (hS:Src W y (Q.begun l k).cQ.2.2):DK k l W (aY 30 [.int .u32 ((Q.begun l k).cQ.2.1:Nat),y]):=by
 subst hk
 have e:=Av l
 have hl:(Q.begun l 4).cQ.2.2.length≤32:=oE _
 rw[← e] at hS hl ⊢
 show zM l W _
 exact⟨y,rfl,hS,by omega⟩
theorem xl {k:Nat} {l:List Nat} {W:World} {y z:Value} (hk:k=5) (hS:Src W y (Q.begun l k).bk.2.1.2) (hS2:Src W z (Q.begun l k).bk.2.2.2):DK k l W (aY 32 [.int .u32 ((Q.begun l k).bk.2.1.1:Nat),y,.int .u32 ((Q.begun l k).bk.2.2.1:Nat),z]):=by
 subst hk
 have e:=uK l
 have hl:(Q.begun l 5).bk.2.1.2.length≤32:=pk _
 have hl2:(Q.begun l 5).bk.2.2.2.length≤32768:=qZ _
 rw[← e] at hS hS2 hl hl2 ⊢
 show o9 l W _
 exact⟨y,z,rfl,hS,hS2,by omega,by omega⟩
theorem yb {k:Nat} {l:List Nat} {j base:Nat} {W:World} {y:Value} {L:List HV} (hk:k=6) (hok:(Q.begun l k).Da j) (hf:((Q.begun l k).p2 j).1.f=none) (hH:HL W base y L) (hm:L.map HV.b=((Q.begun l k).p2 j).2) (hb:∀ x∈L,x.b.length≤32):DK k l W (aY 36 [y]):=by
 subst hk
 have e:=xF hok hf
 obtain⟨ao,cap,rfl⟩:=hH.form
 show tQ l W _
 refine⟨L,ao,cap,rfl,by rw[hm,e],fun j q hq=>⟨Nat.le_trans (hb q (List.mem_of_getElem? hq)) (by decide),?_⟩⟩
 have hj:=(List.getElem?_eq_some_iff.1 hq).1
 rcases hH.row.2 with ⟨e1,e2⟩|⟨g,c,cur,e1,_⟩
 ·have:L.length=0:=e2
  omega
 ·have e3:ao=some ⟨g,0,none⟩:=by injection e1
  subst e3
  obtain rfl:cap=c:=by injection e1
  refine⟨g,0,rfl,?_,(hH.el q (List.mem_of_getElem? hq)).1⟩
  rw[Nat.zero_add,hH.row.cellAt j (by omega),List.getElem?_map,hq]
  rfl
theorem uX {k:Nat} {l:List Nat} {i j base:Nat} {W:World} {y0 y1 y2 y3 y4:Value} (hk:k=7) (hok:(Q.begun l k).yN.Cn (Q.begun l k).m1.2 i j) (hf:((Q.begun l k).iJ i j).1.f=none) (hD:sK W base ((Q.begun l k).iJ i j).2 y0 y1 y2 y3 y4):DK k l W (aY 37 (((Q.begun l k).iJ i j).2.aJ y0 y1 y2 y3 y4).toList):=by
 subst hk
 have e:=rZ hok hf
 have hn:=(dV l).2
 rw[← e] at hD ⊢
 show mG l W _
 exact⟨y0,y1,y2,y3,y4,rfl,hD.o0.AA hn.rq,hD.o1.AA hn.an,hD.o2.DE hn.hi,hD.o3.AA hn.ev,hD.o4,by have:=hD.l4;omega⟩
theorem dr {k:Nat} {l:List Nat} {i j:Nat} (hf:(Q.begun l k).f=none):eT k l i j=(Q.begun l k).D k i j:=by unfold eT;rw[if_pos hf]
theorem vQ {k:Nat} {l:List Nat} {i j:Nat} (hf:(Q.begun l k).f≠none):eT k l i j=Q.begun l k:=by unfold eT;rw[if_neg hf]
theorem D_1 {q:Q} {k i j:Nat} (h:k=1):q.D k i j=q.sQ i:=by subst h;rfl
theorem D_2 {q:Q} {k i j:Nat} (h:k=2):q.D k i j=(q.a7 i j).1:=by subst h;rfl
theorem D_3 {q:Q} {k i j:Nat} (h:k=3):q.D k i j=(q.v5 i).1:=by subst h;rfl
theorem D_4 {q:Q} {k i j:Nat} (h:k=4):q.D k i j=q.cQ.1:=by subst h;rfl
theorem D_5 {q:Q} {k i j:Nat} (h:k=5):q.D k i j=q.bk.1:=by subst h;rfl
theorem D_6 {q:Q} {k i j:Nat} (h:k=6):q.D k i j=(q.p2 j).1:=by subst h;rfl
theorem D_7 {q:Q} {k i j:Nat} (h:k=7):q.D k i j=(q.iJ i j).1:=by subst h;rfl
theorem De {q:Q} {k i j:Nat} (h:k=1) (a:q.sP i):q.AZ k i j:=⟨fun _=>a,fun h=>by omega,fun h=>by omega,fun h=>by omega,fun h=>by omega⟩
theorem Dh {q:Q} {k i j:Nat} (h:k=2) (a:q.CT i j):q.AZ k i j:=⟨fun h=>by omega,fun _=>a,fun h=>by omega,fun h=>by omega,fun h=>by omega⟩
theorem Dg {q:Q} {k i j:Nat} (h:k=3) (a:q.v2.1.sP i):q.AZ k i j:=⟨fun h=>by omega,fun h=>by omega,fun _=>a,fun h=>by omega,fun h=>by omega⟩
theorem zg {q:Q} {k i j:Nat} (h:k=4∨k=5):q.AZ k i j:=⟨fun h=>by omega,fun h=>by omega,fun h=>by omega,fun h=>by omega,fun h=>by omega⟩
theorem Dq {q:Q} {k i j:Nat} (h:k=6) (a:q.Da j):q.AZ k i j:=⟨fun h=>by omega,fun h=>by omega,fun h=>by omega,fun _=>a,fun h=>by omega⟩
theorem Dz {q:Q} {k i j:Nat} (h:k=7) (a:q.yN.Cn q.m1.2 i j):q.AZ k i j:=⟨fun h=>by omega,fun h=>by omega,fun h=>by omega,fun h=>by omega,fun _=>a⟩
theorem yP {w':World} {xo:Option Addr} {len xc:Nat} {all:List Nat} {R:List Value} {q:Q} (hl:all.length=len) (h:QS q xo len xc all R) :
  Calls Tryz.prog 66 #[.agg R.toArray] w' fun e w''=>e = .returned (.agg #[.string (q.aj bm).ended.1,.int .i64 ((q.aj bm).ended.2.1:Nat),.int .i64 ((q.aj bm).ended.2.2:Nat)])∧Fr (fun _=>False) w' w'':=by
 obtain⟨ha,ho,last,rfl,hla⟩:=h
 rw[ei,← Q.ki (by rw[ha];exact hl)]
 exact ub q xo xc last w' ho
theorem Q.oB (l:List Nat) (k:Nat):(Q.begun l k).all=l:=by
 unfold Q.begun
 rw[Q.cH,Q.go_all,Q.de]
theorem Q.zH (l:List Nat) (k:Nat):(Q.begun l k).ok:=by
 unfold Q.begun
 exact Q.bU (Q.go_ok (Q.iI ⟨Nat.zero_le _,Nat.zero_le _,fun y hy=>by cases hy⟩ cP) 1 0) _ (by split <;> omega)
theorem yX {w:World} {xo:Option Addr} {len xc:Nat} {all:List Nat} (A:j9 w xo len xc all) (k:Nat) :
  Calls Tryz.prog 57 #[.slice xo len xc,.int .i64 (k:Nat)] w fun e w'=>∃ R',e = .returned (.agg R'.toArray)∧QS (Q.begun all k) xo len xc all R'∧Fr (fun _=>False) w w':=by
 obtain⟨hx,hl,hc,hb⟩:=A
 subst hl
 refine(ua all k xo xc w hx hc hb).mono ?_
 rintro e w2 ⟨l2,rfl,h1,h2⟩
 exact⟨((Q.begun all k).rv xo all.length xc l2).toList,by rw[ei,Q.ki (by rw[Q.oB])],⟨Q.oB _ _,Q.zH _ _,l2,rfl,h1⟩,h2⟩
theorem Tryz.eH:(Tryz.prog.info? 55).map (·.size)=some 3:=by kernel_rfl
def sd:List Value:=[.string ⟨#[]⟩,.int .i64 0,.int .i64 0]
structure GX (w W:World) (b7:Nat) (R V:List Value):Prop where
 c4:W.heap[w.heap.size]?=some (.cells bo.toArray 44)
 c5:W.heap[w.heap.size+1]?=some (.cells sd.toArray 55)
 c6:W.heap[w.heap.size+1+1]?=some (.cells V.toArray 44)
 c7:W.heap[b7]?=some (.cells R.toArray 120)
 ge:w.heap.size+3≤b7
 fr:Fr (fun _=>False) w W
 n:R.length=7
 v:V.length=72
 o:∀ v∈V,v.oneCell'=true
section
variable {w W W':World} {b7:Nat} {R V:List Value}
theorem GX.lt (h:GX w W b7 R V):b7<W.heap.size:=lt_of_block h.c7
theorem GX.dc (h:GX w W b7 R V) {S:Nat→Prop} (hf:Fr S W W') (hS:∀ k,S k→W.heap.size≤k):GX w W' b7 R V:=by
 have hl:=h.lt
 have hg:=h.ge
 exact⟨(hf.block _ (by omega) (fun h=>by have:=hS _ h;omega)).trans h.c4,(hf.block _ (by omega) (fun h=>by have:=hS _ h;omega)).trans h.c5,(hf.block _ (by omega) (fun h=>by have:=hS _ h;omega)).trans h.c6,(hf.block _ (by omega) (fun h=>by have:=hS _ h;omega)).trans h.c7,hg,h.fr.trans hf (fun k hk e=>by have:=hS k e;have:=h.fr.size;omega),h.n,h.v,h.o⟩
theorem GX.aD (h:GX w W b7 R V) (hf:Fr (fun _=>False) W W'):GX w W' b7 R V:=h.dc hf (fun _ h=>h.elim)
theorem GX.aU (h:GX w W b7 R V) {R':List Value} {q:Q} {xo:Option Addr} {len xc:Nat} {all:List Nat} (hR:QS q xo len xc all R') :
  ∃ W',(Instr.storeAt 120 (.pointer (some ⟨b7,0,none⟩)) (.agg R'.toArray)).run Tryz.prog W = .ok () W'∧GX w W' b7 R' V∧Fr (fun k=>k=b7) W W':=by
 have hl:=h.lt
 have hg:=h.ge
 obtain⟨W',h1,h2,h3⟩:=bA (P:=Tryz.prog) (ty:=120) R R' h.c7 (by rw[h.n,hR.len]) (by rw[hR.len];exact Tryz.al) hR.one
 exact⟨W',h1,⟨(h3.block _ (by omega) (fun h=>by omega)).trans h.c4,(h3.block _ (by omega) (fun h=>by omega)).trans h.c5,(h3.block _ (by omega) (fun h=>by omega)).trans h.c6,h2,hg,h.fr.trans h3 (fun k hk e=>by omega),hR.len,h.v,h.o⟩,h3⟩
theorem GX.bL (h:GX w W b7 R bo) (T:TypeId) (o:Nat) (news:List Value) (hl:o+news.length≤72) (hi:(Tryz.prog.info? T).map (·.size)=some news.length) (h1:∀ v∈news,v.oneCell'=true) :
  ∃ W',(Instr.storeAt T (.pointer (some ⟨w.heap.size+1+1,o,none⟩)) (.agg news.toArray)).run Tryz.prog W = .ok () W'∧GX w W' b7 R (aY o news)∧Fr (fun k=>k=w.heap.size+1+1) W W':=by
 have hlt:=h.lt
 have hg:=h.ge
 obtain⟨W',e1,h2,h3⟩:=vU (P:=Tryz.prog) (ty:=T) (o:=o) bo news h.c6 (by rw[h.v];exact hl) hi h1
 exact⟨W',e1,⟨(h3.block _ (by omega) (fun h=>by omega)).trans h.c4,(h3.block _ (by omega) (fun h=>by omega)).trans h.c5,h2,(h3.block _ (by omega) (fun h=>by omega)).trans h.c7,hg,h.fr.trans h3 (fun k hk e=>by omega),h.n,bf rfl hl,cC h1⟩,h3⟩
end
theorem yG {P:Program} {fn:Func} {S:Ending→World→Prop} {p1 p2:Tmp} {t1 t2:TypeId} {tmps:Array Value} {b1 b2:Nat} {W:World} {R V:List Value} (hb1:W.heap[b1]?=some (.cells R.toArray t1)) (hb2:W.heap[b2]?=some (.cells V.toArray t2)) (h:fn.results = #[.cell p1 t1,.cell p2 t2]) (d1 d2:TypeDesc)
  (hp1:tmps.getD p1 undef = .pointer (some ⟨b1,0,none⟩)) (hp2:tmps.getD p2 undef = .pointer (some ⟨b2,0,none⟩)) (hu1:P.underlying t1=some d1) (hd1:d1.isRow=true) (hi1:(P.info? t1).map (·.size)=some R.length)
  (hu2:P.underlying t2=some d2) (hd2:d2.isRow=true) (hi2:(P.info? t2).map (·.size)=some V.length) (hS:S (.returned (.tuple #[.agg R.toArray,.agg V.toArray])) W):bodyPost P fn S .ret ⟨tmps,[]⟩ W:=by
 refine bodyPost_ret (v:=.tuple #[.agg R.toArray,.agg V.toArray]) ?_ rfl hS
 have hp1':tmps[p1]?.getD undef = .pointer (some ⟨b1,0,none⟩):=by simpa using hp1
 have hp2':tmps[p2]?.getD undef = .pointer (some ⟨b2,0,none⟩):=by simpa using hp2
 simp[results,h,hp1',hp2',asAddr,run_loadVar_mid W _ 0 t1 R d1 (af hb1) hu1 hd1 hi1,run_loadVar_mid W _ 0 t2 V d2 (af hb2) hu2 hd2 hi2]
structure GR (k:Nat) (l:List Nat) (w wx:World) (b7:Nat) (xo:Option Addr) (xc:Nat) (R V:List Value) (i j:Nat):Prop where
 ok:(Q.begun l k).f=none→(Q.begun l k).AZ k i j
 q:QS (eT k l i j) xo l.length xc l R
 x:GX w wx b7 R V
 d:∀ W,Fr (fun k=>k<w.heap.size+3∨wx.heap.size≤k) wx W→(eT k l i j).f=none→DK k l W V
theorem Tryz.yF (w:World):(Instr.build 44 #[]).run Tryz.prog w = .ok (.agg bo.toArray) w:=by kernel_rfl
theorem wC {ops:Array Oper} {S:World→Prop} {op:Oper} {a:Act} (hw:Region.wanted op (yielded ops a.tmps)=true) (ho:op.op = .build 44 #[]):YieldsIf Tryz.prog ops S op (.agg bo.toArray) a:=
 .inl ⟨hw,fun w _=>by
  unfold execOp
  simp only[ho,Array.map_empty,List.map_toArray,List.map_nil,Sem.run_bind,Sem.run_pure,Result.andThen_ok,Tryz.yF]⟩
theorem yD (k:Nat) (h1:1≤k) (h7:k≤7) (xo:Option Addr) (xc:Nat) (l:List Nat) (w:World) (A:j9 w xo l.length xc l) :
  Calls Tryz.prog 25 #[.int .i64 (k:Nat),.slice xo l.length xc] w fun e w'=>∃ vs:List Value,e = .returned (.tuple #[.agg vs.toArray,.agg #[.string (da k l).1,.int .i64 ((da k l).2.1:Nat),.int .i64 ((da k l).2.2:Nat)]])∧vs.length=72∧(∀ v∈vs,v.oneCell'=true)∧((da k l).2.2≠0→vs=bo)∧((da k l).2.2=0→DK k l w' vs)∧Fr (fun _=>False) w w':=by
 have HA:=ae A
 have HK:=ae (And.intro h1 h7)
 obtain⟨a,ea⟩:∃ a,Q.begun l k=a:=⟨_,rfl⟩
 have hbg:=fun W (hf:Fr (fun _=>False) w W)=>yX (A.aD hf) k
 rw[ea] at hbg
 have HBG:=ae hbg
 have HE:=ae ea
 clear hbg ea A
 go_enter Tryz.func25,Tryz.ntmps25
 go_wp2_with fail
 refine((aa HBG) _ (aN _ _ _ _)).mono ?_
 rintro e w2 ⟨R2,rfl,hQ2,hf2⟩
 have hsz:w.heap.size+3≤w2.heap.size:=by have:=hf2.size;simpa using this
 have q4:w2.heap[w.heap.size]?=some (.cells bo.toArray 44):=(hf2.block _ (by simp <;> omega) (fun h=>h)).trans (vH w _ _ _).1
 have q5:w2.heap[w.heap.size+1]?=some (.cells sd.toArray 55):=(hf2.block _ (by simp <;> omega) (fun h=>h)).trans (vH w _ _ _).2.1
 have q6:w2.heap[w.heap.size+1+1]?=some (.cells bo.toArray 44):=(hf2.block _ (by simp <;> omega) (fun h=>h)).trans (vH w _ _ _).2.2.1
 have hf02:=(aN _ _ _ _).trans hf2 (fun _ _ h=>h)
 obtain⟨w3,hst,hbb,hf3⟩:=bA (P:=Tryz.prog) (W:=w2.alloc (.cells oM.toArray 120)) (g:=w2.heap.size) (t:=120) (ty:=120) oM R2 (heap_alloc_new w2 _) (by rw[hQ2.len];rfl) (by rw[hQ2.len];exact Tryz.al) hQ2.one
 have hf23:Fr (fun k=>k=w2.heap.size) w2 w3:=((Fr.refl _ w2).alloc _).trans hf3 (fun k _ h=>h)
 have hX3:GX w w3 (w2.heap.size) R2 bo:=⟨(hf23.block _ (by omega) (fun h=>by omega)).trans q4,(hf23.block _ (by omega) (fun h=>by omega)).trans q5,(hf23.block _ (by omega) (fun h=>by omega)).trans q6,hbb,by omega,hf02.trans hf23 (fun k hk e=>by omega),hQ2.len,rfl,jF⟩
 have HST:=ae hst
 have HX3:=ae hX3
 have HQ2:=ae hQ2
 clear hst hbb hf3 hf23 hX3 hQ2 hf2 hf02 q4 q5 q6 hsz HBG
 go_upto_region 3 with (first|((with_reducible refine aq ?_);refine ag rfl 120 (.tmp 7) (.tmp 11) rfl _ _ rfl rfl (aa HST) ?_))
 clear HST
 go_wp2_with (first|((with_reducible refine av 12 ?_);refine wpList_load_mid rfl 120 (.tmp 7) rfl w2.heap.size 0 rfl _ _ (af (aa HX3).c7) Tryz.underlying120 rfl (by rw[(aa HX3).n];exact Tryz.al) ?_))
 refine(jn (aa HQ2)).mono ?_
 rintro e w4 ⟨rfl,hf4⟩
 have HX:=ae ((aa HX3).aD hf4)
 clear HX3 hf4
 go_upto_if 13 with fail
 go_cut [] from 13 to 69 (fun wx=>∃ R' V i j,GR k l w wx (w2.heap.size) xo xc R' V i j)
 case first =>
  by_cases hg:a.f=none
  ·rw[decide_eq_true hg]
   have HGd:=ae hg
   clear hg
   rcases(by omega:k=1∨k=2∨k=3∨k=4∨k=5∨k=6∨k=7) with hk|hk|hk|hk|hk|hk|hk
   ·have e1:((k:Int) == 1)=true:=by simp;omega
    have e2:((k:Int) == 2)=false:=by simp;omega
    have e3:((k:Int) == 3)=false:=by simp;omega
    have e4:((k:Int) == 4)=false:=by simp;omega
    have e5:((k:Int) == 5)=false:=by simp;omega
    have e6:((k:Int) == 6)=false:=by simp;omega
    have e7:((k:Int) == 7)=false:=by simp;omega
    have HKN:=ae hk
    clear hk
    go_wp2_with (first|((with_reducible refine av 17 ?_);refine wpList_load_mid rfl 120 (.tmp 7) rfl w2.heap.size 0 rfl _ _ (af (aa HX).c7) Tryz.underlying120 rfl (by rw[(aa HX).n];exact Tryz.al) ?_))
    refine(eX ((aa HA).aD (aa HX).fr) (aa HQ2)).mono ?_
    rintro e wa ⟨Ra,fv,fi,rfl,hok,hQa,hOa,hfa⟩
    have hlX:=(aa HX).lt
    have hgX:=(aa HX).ge
    obtain⟨wb,hst,hGb,hfb⟩:=((aa HX).aD hfa).aU hQa
    have eo0:=aS hOa.row
    have hone:∀ v∈(((a.gK fi).aJ fv).toList:List Value),v.oneCell'=true:=List.all_eq_true.1 (show List.all (((a.gK fi).aJ fv).toList:List Value) (fun v=>v.oneCell')=true by simp[Value.oneCell',ed.aJ];exact eo0)
    obtain⟨wc,hst2,hGc,hfc⟩:=hGb.bL 30 0 (((a.gK fi).aJ fv).toList) (show 0+10≤72 by decide) Tryz.fS hone
    rw[C2] at hst2
    have hbc:Fr (fun k=>k=(w2.heap.size)∨k=w.heap.size+1+1) wa wc:=(hfb.mono (T:=fun k=>k=(w2.heap.size)∨k=w.heap.size+1+1) (fun _ _ h=>.inl h)).trans hfc (fun _ _ h=>.inr h)
    have hd:∀ W,Fr (fun k=>k<w.heap.size+3∨wc.heap.size≤k) wc W→(eT k l fi 0).f=none→DK k l W (aY 0 (((a.gK fi).aJ fv).toList)):=fun W hW hz=>by
     have hk:=aa HKN
     have hE:=aa HE
     have hG:=aa HGd
     rw[dr (by rw[hE];exact hG),D_1 hk] at hz
     have OW:∀ {y:Value} {L:List cA},dy wa w4.heap.size y L (fun _=>False)→dy W w4.heap.size y L (fun _=>False):=fun h=>(h.dc hbc (fun k hk=>by omega)).dc hW (fun k hk=>by omega)
     subst hE
     exact tt hk hok hz (OW hOa)
    have hq:QS (eT k l fi 0) xo l.length xc l Ra:=by rw[dr (by rw[aa HE];exact aa HGd),aa HE,D_1 (aa HKN)];exact hQa
    have hk:=aa HKN
    have hR:∃ R' V i j,GR k l w wc (w2.heap.size) xo xc R' V i j:=⟨Ra,_,fi,0,⟨fun _=>by rw[aa HE];exact De hk hok,hq,hGc,hd⟩⟩
    have HRR:=ae hR
    have HS1:=ae hst
    have HS2:=ae hst2
    clear hst hst2 hGb hGc hfb hfc hbc hd hq hR hone hlX hgX hk
    go_wp2_with (first|((with_reducible refine aq ?_);refine ag rfl 120 (.tmp 7) (.tmp 19) rfl _ _ rfl rfl (aa HS1) ?_)|((with_reducible refine aq ?_);refine ag rfl 30 (.tmp 21) (.tmp 20) rfl _ _ rfl rfl (aa HS2) ?_))
    go_meet
    case rel=>exact aa HRR
   ·have e1:((k:Int) == 1)=false:=by simp;omega
    have e2:((k:Int) == 2)=true:=by simp;omega
    have e3:((k:Int) == 3)=false:=by simp;omega
    have e4:((k:Int) == 4)=false:=by simp;omega
    have e5:((k:Int) == 5)=false:=by simp;omega
    have e6:((k:Int) == 6)=false:=by simp;omega
    have e7:((k:Int) == 7)=false:=by simp;omega
    have HKN:=ae hk
    clear hk
    go_wp2_with (first|((with_reducible refine av 25 ?_);refine wpList_load_mid rfl 120 (.tmp 7) rfl w2.heap.size 0 rfl _ _ (af (aa HX).c7) Tryz.underlying120 rfl (by rw[(aa HX).n];exact Tryz.al) ?_))
    refine(gX ((aa HA).aD (aa HX).fr) (aa HQ2)).mono ?_
    rintro e wa ⟨Ra,fv,yv,fi,fj,rfl,hok,hQa,hOa,hZa,hfa⟩
    have hlX:=(aa HX).lt
    have hgX:=(aa HX).ge
    obtain⟨wb,hst,hGb,hfb⟩:=((aa HX).aD hfa).aU hQa
    have eo0:=aS hOa.row
    have eo1:=aS hZa.row
    have hone:∀ v∈(((a.qC fi fj).aJ fv yv).toList:List Value),v.oneCell'=true:=List.all_eq_true.1 (show List.all (((a.qC fi fj).aJ fv yv).toList:List Value) (fun v=>v.oneCell')=true by simp[Value.oneCell',hI.aJ];exact⟨eo0,eo1⟩)
    obtain⟨wc,hst2,hGc,hfc⟩:=hGb.bL 33 10 (((a.qC fi fj).aJ fv yv).toList) (show 10+7≤72 by decide) Tryz.iM hone
    rw[C2] at hst2
    have hbc:Fr (fun k=>k=(w2.heap.size)∨k=w.heap.size+1+1) wa wc:=(hfb.mono (T:=fun k=>k=(w2.heap.size)∨k=w.heap.size+1+1) (fun _ _ h=>.inl h)).trans hfc (fun _ _ h=>.inr h)
    have hd:∀ W,Fr (fun k=>k<w.heap.size+3∨wc.heap.size≤k) wc W→(eT k l fi fj).f=none→DK k l W (aY 10 (((a.qC fi fj).aJ fv yv).toList)):=fun W hW hz=>by
     have hk:=aa HKN
     have hE:=aa HE
     have hG:=aa HGd
     rw[dr (by rw[hE];exact hG),D_2 hk] at hz
     have OW:∀ {y:Value} {L:List cA},dy wa w4.heap.size y L (fun _=>False)→dy W w4.heap.size y L (fun _=>False):=fun h=>(h.dc hbc (fun k hk=>by omega)).dc hW (fun k hk=>by omega)
     have OZ:∀ {y:Value} {L:List dG},gd wa w4.heap.size y L (fun _=>False)→gd W w4.heap.size y L (fun _=>False):=fun h=>(h.dc hbc (fun k hk=>by omega)).dc hW (fun k hk=>by omega)
     subst hE
     exact wH hk hok hz (OW hOa) (OZ hZa)
    have hq:QS (eT k l fi fj) xo l.length xc l Ra:=by rw[dr (by rw[aa HE];exact aa HGd),aa HE,D_2 (aa HKN)];exact hQa
    have hk:=aa HKN
    have hR:∃ R' V i j,GR k l w wc (w2.heap.size) xo xc R' V i j:=⟨Ra,_,fi,fj,⟨fun _=>by rw[aa HE];exact Dh hk hok,hq,hGc,hd⟩⟩
    have HRR:=ae hR
    have HS1:=ae hst
    have HS2:=ae hst2
    clear hst hst2 hGb hGc hfb hfc hbc hd hq hR hone hlX hgX hk
    go_wp2_with (first|((with_reducible refine aq ?_);refine ag rfl 120 (.tmp 7) (.tmp 27) rfl _ _ rfl rfl (aa HS1) ?_)|((with_reducible refine aq ?_);refine ag rfl 33 (.tmp 29) (.tmp 28) rfl _ _ rfl rfl (aa HS2) ?_))
    go_meet
    case rel=>exact aa HRR
   ·have e1:((k:Int) == 1)=false:=by simp;omega
    have e2:((k:Int) == 2)=false:=by simp;omega
    have e3:((k:Int) == 3)=true:=by simp;omega
    have e4:((k:Int) == 4)=false:=by simp;omega
    have e5:((k:Int) == 5)=false:=by simp;omega
    have e6:((k:Int) == 6)=false:=by simp;omega
    have e7:((k:Int) == 7)=false:=by simp;omega
    have HKN:=ae hk
    clear hk
    go_wp2_with (first|((with_reducible refine av 33 ?_);refine wpList_load_mid rfl 120 (.tmp 7) rfl w2.heap.size 0 rfl _ _ (af (aa HX).c7) Tryz.underlying120 rfl (by rw[(aa HX).n];exact Tryz.al) ?_))
    refine(jg ((aa HA).aD (aa HX).fr) (aa HQ2)).mono ?_
    rintro e wa ⟨Ra,fv,yv,fi,rfl,hok,hQa,hOa,hSa,hna,hfa⟩
    have hlX:=(aa HX).lt
    have hgX:=(aa HX).ge
    obtain⟨wb,hst,hGb,hfb⟩:=((aa HX).aD hfa).aU hQa
    have eo0:=aS hOa.row
    have eo1:=iH hSa
    have hone:∀ v∈(((a.sJ fi).aJ fv yv).toList:List Value),v.oneCell'=true:=List.all_eq_true.1 (show List.all (((a.sJ fi).aJ fv yv).toList:List Value) (fun v=>v.oneCell')=true by simp[Value.oneCell',iW.aJ];exact⟨eo0,eo1⟩)
    obtain⟨wc,hst2,hGc,hfc⟩:=hGb.bL 35 17 (((a.sJ fi).aJ fv yv).toList) (show 17+13≤72 by decide) Tryz.lE hone
    rw[C2] at hst2
    have hbc:Fr (fun k=>k=(w2.heap.size)∨k=w.heap.size+1+1) wa wc:=(hfb.mono (T:=fun k=>k=(w2.heap.size)∨k=w.heap.size+1+1) (fun _ _ h=>.inl h)).trans hfc (fun _ _ h=>.inr h)
    have hd:∀ W,Fr (fun k=>k<w.heap.size+3∨wc.heap.size≤k) wc W→(eT k l fi 0).f=none→DK k l W (aY 17 (((a.sJ fi).aJ fv yv).toList)):=fun W hW hz=>by
     have hk:=aa HKN
     have hE:=aa HE
     have hG:=aa HGd
     rw[dr (by rw[hE];exact hG),D_3 hk] at hz
     have OW:∀ {y:Value} {L:List cA},dy wa w4.heap.size y L (fun _=>False)→dy W w4.heap.size y L (fun _=>False):=fun h=>(h.dc hbc (fun k hk=>by omega)).dc hW (fun k hk=>by omega)
     have SR:∀ {y:Value} {L:List Nat},Src wa y L→(∀ g o m c,y = .slice (some ⟨g,o,none⟩) m c→w4.heap.size≤g)→Src W y L:=fun h hn=>(h.yL hbc (fun g o n c e hx=>by have:=hn g o _ c e;omega)).yL hW (fun g o n c e hx=>by have:=hn g o _ c e;have:=kt h e;have:=hbc.size;omega)
     subst hE
     exact y7 hk hok hz (OW hOa) (SR hSa hna)
    have hq:QS (eT k l fi 0) xo l.length xc l Ra:=by rw[dr (by rw[aa HE];exact aa HGd),aa HE,D_3 (aa HKN)];exact hQa
    have hk:=aa HKN
    have hR:∃ R' V i j,GR k l w wc (w2.heap.size) xo xc R' V i j:=⟨Ra,_,fi,0,⟨fun _=>by rw[aa HE];exact Dg hk hok,hq,hGc,hd⟩⟩
    have HRR:=ae hR
    have HS1:=ae hst
    have HS2:=ae hst2
    clear hst hst2 hGb hGc hfb hfc hbc hd hq hR hone hlX hgX hk
    go_wp2_with (first|((with_reducible refine aq ?_);refine ag rfl 120 (.tmp 7) (.tmp 35) rfl _ _ rfl rfl (aa HS1) ?_)|((with_reducible refine aq ?_);refine ag rfl 35 (.tmp 37) (.tmp 36) rfl _ _ rfl rfl (aa HS2) ?_))
    go_meet
    case rel=>exact aa HRR
   ·have e1:((k:Int) == 1)=false:=by simp;omega
    have e2:((k:Int) == 2)=false:=by simp;omega
    have e3:((k:Int) == 3)=false:=by simp;omega
    have e4:((k:Int) == 4)=true:=by simp;omega
    have e5:((k:Int) == 5)=false:=by simp;omega
    have e6:((k:Int) == 6)=false:=by simp;omega
    have e7:((k:Int) == 7)=false:=by simp;omega
    have HKN:=ae hk
    clear hk
    go_wp2_with (first|((with_reducible refine av 41 ?_);refine wpList_load_mid rfl 120 (.tmp 7) rfl w2.heap.size 0 rfl _ _ (af (aa HX).c7) Tryz.underlying120 rfl (by rw[(aa HX).n];exact Tryz.al) ?_))
    refine(vy (aa HA) (aa HX).fr (aa HQ2)).mono ?_
    rintro e wa ⟨Ra,yv,rfl,hQa,hSa,hna,hfa⟩
    have hlX:=(aa HX).lt
    have hgX:=(aa HX).ge
    obtain⟨wb,hst,hGb,hfb⟩:=((aa HX).aD hfa).aU hQa
    have eo0:=iH hSa
    have hone:∀ v∈([.int .u32 (a.cQ.2.1:Nat),yv]:List Value),v.oneCell'=true:=List.all_eq_true.1 (show List.all ([.int .u32 (a.cQ.2.1:Nat),yv]:List Value) (fun v=>v.oneCell')=true by simp[Value.oneCell'];exact eo0)
    obtain⟨wc,hst2,hGc,hfc⟩:=hGb.bL 25 30 ([.int .u32 (a.cQ.2.1:Nat),yv]) (show 30+2≤72 by decide) Tryz.cL hone
    have hbc:Fr (fun k=>k=(w2.heap.size)∨k=w.heap.size+1+1) wa wc:=(hfb.mono (T:=fun k=>k=(w2.heap.size)∨k=w.heap.size+1+1) (fun _ _ h=>.inl h)).trans hfc (fun _ _ h=>.inr h)
    have hd:∀ W,Fr (fun k=>k<w.heap.size+3∨wc.heap.size≤k) wc W→(eT k l 0 0).f=none→DK k l W (aY 30 ([.int .u32 (a.cQ.2.1:Nat),yv])):=fun W hW hz=>by
     have hk:=aa HKN
     have hE:=aa HE
     have hG:=aa HGd
     rw[dr (by rw[hE];exact hG),D_4 hk] at hz
     have SR:∀ {y:Value} {L:List Nat},Src wa y L→(∀ g o m c,y = .slice (some ⟨g,o,none⟩) m c→w4.heap.size≤g)→Src W y L:=fun h hn=>(h.yL hbc (fun g o n c e hx=>by have:=hn g o _ c e;omega)).yL hW (fun g o n c e hx=>by have:=hn g o _ c e;have:=kt h e;have:=hbc.size;omega)
     subst hE
     exact Cb hk (SR hSa hna)
    have hq:QS (eT k l 0 0) xo l.length xc l Ra:=by rw[dr (by rw[aa HE];exact aa HGd),aa HE,D_4 (aa HKN)];exact hQa
    have hk:=aa HKN
    have hR:∃ R' V i j,GR k l w wc (w2.heap.size) xo xc R' V i j:=⟨Ra,_,0,0,⟨fun _=>by rw[aa HE];exact zg (.inl hk),hq,hGc,hd⟩⟩
    have HRR:=ae hR
    have HS1:=ae hst
    have HS2:=ae hst2
    clear hst hst2 hGb hGc hfb hfc hbc hd hq hR hone hlX hgX hk
    go_wp2_with (first|((with_reducible refine aq ?_);refine ag rfl 120 (.tmp 7) (.tmp 43) rfl _ _ rfl rfl (aa HS1) ?_)|((with_reducible refine aq ?_);refine ag rfl 25 (.tmp 45) (.tmp 44) rfl _ _ rfl rfl (aa HS2) ?_))
    go_meet
    case rel=>exact aa HRR
   ·have e1:((k:Int) == 1)=false:=by simp;omega
    have e2:((k:Int) == 2)=false:=by simp;omega
    have e3:((k:Int) == 3)=false:=by simp;omega
    have e4:((k:Int) == 4)=false:=by simp;omega
    have e5:((k:Int) == 5)=true:=by simp;omega
    have e6:((k:Int) == 6)=false:=by simp;omega
    have e7:((k:Int) == 7)=false:=by simp;omega
    have HKN:=ae hk
    clear hk
    go_wp2_with (first|((with_reducible refine av 49 ?_);refine wpList_load_mid rfl 120 (.tmp 7) rfl w2.heap.size 0 rfl _ _ (af (aa HX).c7) Tryz.underlying120 rfl (by rw[(aa HX).n];exact Tryz.al) ?_))
    refine(wU (aa HA) (aa HX).fr (aa HQ2)).mono ?_
    rintro e wa ⟨Ra,yv,zv,rfl,hQa,⟨hSa,hSb⟩,⟨hna,hnb⟩,hfa⟩
    have hlX:=(aa HX).lt
    have hgX:=(aa HX).ge
    obtain⟨wb,hst,hGb,hfb⟩:=((aa HX).aD hfa).aU hQa
    have eo0:=iH hSa
    have eo1:=iH hSb
    have hone:∀ v∈([.int .u32 (a.bk.2.1.1:Nat),yv,.int .u32 (a.bk.2.2.1:Nat),zv]:List Value),v.oneCell'=true:=List.all_eq_true.1 (show List.all ([.int .u32 (a.bk.2.1.1:Nat),yv,.int .u32 (a.bk.2.2.1:Nat),zv]:List Value) (fun v=>v.oneCell')=true by simp[Value.oneCell'];exact⟨eo0,eo1⟩)
    obtain⟨wc,hst2,hGc,hfc⟩:=hGb.bL 37 32 ([.int .u32 (a.bk.2.1.1:Nat),yv,.int .u32 (a.bk.2.2.1:Nat),zv]) (show 32+4≤72 by decide) Tryz.jH hone
    have hbc:Fr (fun k=>k=(w2.heap.size)∨k=w.heap.size+1+1) wa wc:=(hfb.mono (T:=fun k=>k=(w2.heap.size)∨k=w.heap.size+1+1) (fun _ _ h=>.inl h)).trans hfc (fun _ _ h=>.inr h)
    have hd:∀ W,Fr (fun k=>k<w.heap.size+3∨wc.heap.size≤k) wc W→(eT k l 0 0).f=none→DK k l W (aY 32 ([.int .u32 (a.bk.2.1.1:Nat),yv,.int .u32 (a.bk.2.2.1:Nat),zv])):=fun W hW hz=>by
     have hk:=aa HKN
     have hE:=aa HE
     have hG:=aa HGd
     rw[dr (by rw[hE];exact hG),D_5 hk] at hz
     have SR:∀ {y:Value} {L:List Nat},Src wa y L→(∀ g o m c,y = .slice (some ⟨g,o,none⟩) m c→w4.heap.size≤g)→Src W y L:=fun h hn=>(h.yL hbc (fun g o n c e hx=>by have:=hn g o _ c e;omega)).yL hW (fun g o n c e hx=>by have:=hn g o _ c e;have:=kt h e;have:=hbc.size;omega)
     subst hE
     exact xl hk (SR hSa hna) (SR hSb hnb)
    have hq:QS (eT k l 0 0) xo l.length xc l Ra:=by rw[dr (by rw[aa HE];exact aa HGd),aa HE,D_5 (aa HKN)];exact hQa
    have hk:=aa HKN
    have hR:∃ R' V i j,GR k l w wc (w2.heap.size) xo xc R' V i j:=⟨Ra,_,0,0,⟨fun _=>by rw[aa HE];exact zg (.inr hk),hq,hGc,hd⟩⟩
    have HRR:=ae hR
    have HS1:=ae hst
    have HS2:=ae hst2
    clear hst hst2 hGb hGc hfb hfc hbc hd hq hR hone hlX hgX hk
    go_wp2_with (first|((with_reducible refine aq ?_);refine ag rfl 120 (.tmp 7) (.tmp 51) rfl _ _ rfl rfl (aa HS1) ?_)|((with_reducible refine aq ?_);refine ag rfl 37 (.tmp 53) (.tmp 52) rfl _ _ rfl rfl (aa HS2) ?_))
    go_meet
    case rel=>exact aa HRR
   ·have e1:((k:Int) == 1)=false:=by simp;omega
    have e2:((k:Int) == 2)=false:=by simp;omega
    have e3:((k:Int) == 3)=false:=by simp;omega
    have e4:((k:Int) == 4)=false:=by simp;omega
    have e5:((k:Int) == 5)=false:=by simp;omega
    have e6:((k:Int) == 6)=true:=by simp;omega
    have e7:((k:Int) == 7)=false:=by simp;omega
    have HKN:=ae hk
    clear hk
    go_wp2_with (first|((with_reducible refine av 57 ?_);refine wpList_load_mid rfl 120 (.tmp 7) rfl w2.heap.size 0 rfl _ _ (af (aa HX).c7) Tryz.underlying120 rfl (by rw[(aa HX).n];exact Tryz.al) ?_))
    refine(nQ ((aa HA).aD (aa HX).fr) (aa HQ2)).mono ?_
    rintro e wa ⟨Ra,yv,L,fj,rfl,hok,hQa,hHa,hmL,hbL,hfa⟩
    have hlX:=(aa HX).lt
    have hgX:=(aa HX).ge
    obtain⟨wb,hst,hGb,hfb⟩:=((aa HX).aD hfa).aU hQa
    have eo0:=aS hHa.row
    have hone:∀ v∈([yv]:List Value),v.oneCell'=true:=List.all_eq_true.1 (show List.all ([yv]:List Value) (fun v=>v.oneCell')=true by simp[Value.oneCell'];exact eo0)
    obtain⟨wc,hst2,hGc,hfc⟩:=hGb.bL 40 36 ([yv]) (show 36+1≤72 by decide) Tryz.jZ hone
    have hbc:Fr (fun k=>k=(w2.heap.size)∨k=w.heap.size+1+1) wa wc:=(hfb.mono (T:=fun k=>k=(w2.heap.size)∨k=w.heap.size+1+1) (fun _ _ h=>.inl h)).trans hfc (fun _ _ h=>.inr h)
    have hd:∀ W,Fr (fun k=>k<w.heap.size+3∨wc.heap.size≤k) wc W→(eT k l 0 fj).f=none→DK k l W (aY 36 ([yv])):=fun W hW hz=>by
     have hk:=aa HKN
     have hE:=aa HE
     have hG:=aa HGd
     rw[dr (by rw[hE];exact hG),D_6 hk] at hz
     have HR:∀ {y:Value} {L:List HV},HL wa w4.heap.size y L→HL W w4.heap.size y L:=fun h=>(h.dc hbc (fun k hk=>by omega)).dc hW (fun k hk=>by omega)
     subst hE
     exact yb hk hok hz (HR hHa) hmL hbL
    have hq:QS (eT k l 0 fj) xo l.length xc l Ra:=by rw[dr (by rw[aa HE];exact aa HGd),aa HE,D_6 (aa HKN)];exact hQa
    have hk:=aa HKN
    have hR:∃ R' V i j,GR k l w wc (w2.heap.size) xo xc R' V i j:=⟨Ra,_,0,fj,⟨fun _=>by rw[aa HE];exact Dq hk hok,hq,hGc,hd⟩⟩
    have HRR:=ae hR
    have HS1:=ae hst
    have HS2:=ae hst2
    clear hst hst2 hGb hGc hfb hfc hbc hd hq hR hone hlX hgX hk
    go_wp2_with (first|((with_reducible refine aq ?_);refine ag rfl 120 (.tmp 7) (.tmp 59) rfl _ _ rfl rfl (aa HS1) ?_)|((with_reducible refine aq ?_);refine ag rfl 40 (.tmp 61) (.tmp 60) rfl _ _ rfl rfl (aa HS2) ?_))
    go_meet
    case rel=>exact aa HRR
   ·have e1:((k:Int) == 1)=false:=by simp;omega
    have e2:((k:Int) == 2)=false:=by simp;omega
    have e3:((k:Int) == 3)=false:=by simp;omega
    have e4:((k:Int) == 4)=false:=by simp;omega
    have e5:((k:Int) == 5)=false:=by simp;omega
    have e6:((k:Int) == 6)=false:=by simp;omega
    have e7:((k:Int) == 7)=true:=by simp;omega
    have HKN:=ae hk
    clear hk
    go_wp2_with (first|((with_reducible refine av 65 ?_);refine wpList_load_mid rfl 120 (.tmp 7) rfl w2.heap.size 0 rfl _ _ (af (aa HX).c7) Tryz.underlying120 rfl (by rw[(aa HX).n];exact Tryz.al) ?_))
    refine(lx ((aa HA).aD (aa HX).fr) (aa HQ2)).mono ?_
    rintro e wa ⟨Ra,y0,y1,y2,y3,y4,fi,fj,rfl,hok,hQa,hDa,hfa⟩
    have hlX:=(aa HX).lt
    have hgX:=(aa HX).ge
    obtain⟨wb,hst,hGb,hfb⟩:=((aa HX).aD hfa).aU hQa
    have eo0:=aS hDa.o0.row
    have eo1:=aS hDa.o1.row
    have eo2:=aS hDa.o2.row
    have eo3:=aS hDa.o3.row
    have eo4:=iH hDa.o4
    have hone:∀ v∈(((a.iJ fi fj).2.aJ y0 y1 y2 y3 y4).toList:List Value),v.oneCell'=true:=List.all_eq_true.1 (show List.all (((a.iJ fi fj).2.aJ y0 y1 y2 y3 y4).toList:List Value) (fun v=>v.oneCell')=true by simp[Value.oneCell',eS.aJ];exact⟨eo0,eo1,eo2,eo3,eo4⟩)
    obtain⟨wc,hst2,hGc,hfc⟩:=hGb.bL 42 37 (((a.iJ fi fj).2.aJ y0 y1 y2 y3 y4).toList) (show 37+35≤72 by decide) Tryz.db hone
    rw[C2] at hst2
    have hbc:Fr (fun k=>k=(w2.heap.size)∨k=w.heap.size+1+1) wa wc:=(hfb.mono (T:=fun k=>k=(w2.heap.size)∨k=w.heap.size+1+1) (fun _ _ h=>.inl h)).trans hfc (fun _ _ h=>.inr h)
    have hd:∀ W,Fr (fun k=>k<w.heap.size+3∨wc.heap.size≤k) wc W→(eT k l fi fj).f=none→DK k l W (aY 37 (((a.iJ fi fj).2.aJ y0 y1 y2 y3 y4).toList)):=fun W hW hz=>by
     have hk:=aa HKN
     have hE:=aa HE
     have hG:=aa HGd
     rw[dr (by rw[hE];exact hG),D_7 hk] at hz
     have MD:∀ {v:eS} {y0 y1 y2 y3 y4:Value},sK wa w4.heap.size v y0 y1 y2 y3 y4→sK W w4.heap.size v y0 y1 y2 y3 y4:=fun h=>(h.dc hbc (fun k hk=>by omega)).dc hW (fun k hk=>by omega)
     subst hE
     exact uX hk hok hz (MD hDa)
    have hq:QS (eT k l fi fj) xo l.length xc l Ra:=by rw[dr (by rw[aa HE];exact aa HGd),aa HE,D_7 (aa HKN)];exact hQa
    have hk:=aa HKN
    have hR:∃ R' V i j,GR k l w wc (w2.heap.size) xo xc R' V i j:=⟨Ra,_,fi,fj,⟨fun _=>by rw[aa HE];exact Dz hk hok,hq,hGc,hd⟩⟩
    have HRR:=ae hR
    have HS1:=ae hst
    have HS2:=ae hst2
    clear hst hst2 hGb hGc hfb hfc hbc hd hq hR hone hlX hgX hk
    go_wp2_with (first|((with_reducible refine aq ?_);refine ag rfl 120 (.tmp 7) (.tmp 67) rfl _ _ rfl rfl (aa HS1) ?_)|((with_reducible refine aq ?_);refine ag rfl 42 (.tmp 69) (.tmp 68) rfl _ _ rfl rfl (aa HS2) ?_))
    go_meet
    case rel=>exact aa HRR
  ·rw[decide_eq_false hg]
   go_wp2_with fail
   go_meet
   case rel=>exact⟨R2,bo,0,0,⟨fun h=>absurd ((aa HE) ▸ h) hg,by rw[vQ (by rw[aa HE];exact hg),aa HE];exact aa HQ2,aa HX,fun W hW hz=>by rw[vQ (by rw[aa HE];exact hg),aa HE] at hz;exact absurd hz hg⟩⟩
 case rest =>
  obtain⟨R5,V,i,j,hG⟩:=hcut
  rename World=>w5
  clear HX HQ2
  have hfin:=y5 k (aa HK).1 (aa HK).2 l i j hG.ok
  have HX5:=ae hG.x
  have HQ5:=ae hG.q
  have hd:=hG.d
  have hze:(da k l).2.2=0→(eT k l i j).f=none:=fun h0=>A6 hG.q.2.1 (by rw[hfin];exact h0)
  have HD:=ae (fun W hW h0=>hd W hW (hze h0))
  have HFN:=ae hfin
  clear hG hd hze hfin
  go_wp2_with (first|((with_reducible refine av 70 ?_);refine wpList_load_mid rfl 120 (.tmp 7) rfl w2.heap.size 0 rfl _ _ (af (aa HX5).c7) Tryz.underlying120 rfl (by rw[(aa HX5).n];exact Tryz.al) ?_))
  refine(yP (aa HA).hl (aa HQ5)).mono ?_
  rintro e w6 ⟨rfl,hf6⟩
  rw[aa HFN]
  obtain⟨nm,hnm⟩:∃ nm,(da k l).1=nm:=⟨_,rfl⟩
  obtain⟨at',hat⟩:∃ x,(da k l).2.1=x:=⟨_,rfl⟩
  obtain⟨wy,hwy⟩:∃ x,(da k l).2.2=x:=⟨_,rfl⟩
  rw[hnm,hat,hwy]
  have hfk:da k l=(nm,at',wy):=by rw[← hnm,← hat,← hwy]
  have HFK:=ae hfk
  clear hnm hat hwy hfk HFN HQ5
  have hX6:=(aa HX5).aD hf6
  have hl6:=hX6.lt
  have hg6:=hX6.ge
  obtain⟨w7,hst,hb8,hf7⟩:=bA (P:=Tryz.prog) (W:=w6.alloc (.cells sd.toArray 55)) (g:=w6.heap.size) (t:=55) (ty:=55) sd [.string nm,.int .i64 (at':Nat),.int .i64 (wy:Nat)] (heap_alloc_new w6 _) rfl Tryz.eH (by simp[Value.oneCell'])
  have hf67:Fr (fun k=>k=w6.heap.size) w6 w7:=((Fr.refl _ w6).alloc _).trans hf7 (fun k _ h=>h)
  have hX7:=hX6.dc hf67 (fun k hk=>by omega)
  have hs5:=hf6.size
  have h57:Fr (fun k=>w5.heap.size≤k) w5 w7:=(hf6.mono (T:=fun k=>w5.heap.size≤k) (fun _ _ h=>h.elim)).trans hf67 (fun k _ h=>by omega)
  have r2:w7.cell? ⟨w6.heap.size,2,none⟩=some (.int .i64 (wy:Nat)):=af hb8 2 _ rfl |> fun h=>by simpa using h
  have HST:=ae hst
  have HX7:=ae hX7
  have H57:=ae (And.intro h57 (And.intro hb8 (And.intro (lt_of_block hb8) (And.intro hl6 hg6))))
  clear hst hb8 hf7 hf67 hX6 hX7 h57 hl6 hg6 hs5 hf6 HX5
  by_cases hz:wy=0
  ·have ez:((wy:Int) != 0)=false:=by simp;omega
   have HZ:=ae hz
   clear hz
   go_upto_region 21 with (first|((with_reducible refine aq ?_);refine ag rfl 55 (.tmp 8) (.tmp 71) rfl _ _ rfl rfl (aa HST) ?_))
   have hX:=(aa HX7).aD (Fr.refl (fun _=>False) _).drew
   have hl8:=hX.lt
   have hg8:=hX.ge
   have hl6:=(aa H57).2.2.2.1
   have hb8:=((Fr.refl (fun _=>False) w7).drew.block w6.heap.size (aa H57).2.2.1 (fun h=>h)).trans (aa H57).2.1
   have hl9:=lt_of_block hb8
   obtain⟨W1,t1,c1,f1⟩:=bA (P:=Tryz.prog) (ty:=44) bo V hX.c4 (by rw[hX.v];rfl) (by rw[hX.v];exact Tryz.bO) hX.o
   have hs1:=f1.size
   obtain⟨W2,t2,c2,f2⟩:=bA (P:=Tryz.prog) (ty:=55) sd [.string nm,.int .i64 (at':Nat),.int .i64 (wy:Nat)] ((f1.block _ (by omega) (fun h=>by omega)).trans hX.c5) rfl Tryz.eH (by simp[Value.oneCell'])
   have c1':=(f2.block w.heap.size (by omega) (fun h=>by omega)).trans c1
   have g1:=f1.mono (T:=fun k=>k=w.heap.size∨k=w.heap.size+1) (fun _ _ h=>.inl h)
   have g2:=g1.trans f2 (fun k hk e=>.inr e)
   have HSd:=ae (fun W' (hf:Fr (fun k=>k=w.heap.size∨k=w.heap.size+1) _ W')=>And.intro (af ((hf.block (w.heap.size+1+1) (by omega) (fun h=>by omega)).trans hX.c6)) (af (cs:=[.string nm,.int .i64 (at':Nat),.int .i64 (wy:Nat)]) ((hf.block w6.heap.size hl9 (fun h=>by omega)).trans hb8)))
   have HS1:=ae t1
   have HS2:=ae t2
   have HF1:=ae g1
   have HF2:=ae g2
   have HC:=ae (And.intro c1' c2)
   have HVL:=ae (And.intro hX.v hX.o)
   have hd:(da k l).2.2=0→DK k l W2 V:=(aa HD) W2 (((aa H57).1.mono (T:=fun k=>k<w.heap.size+3∨w5.heap.size≤k) (fun _ _ h=>.inr h)).trans (((Fr.refl (fun _=>False) w7).drew.mono (T:=fun k=>k=w.heap.size∨k=w.heap.size+1) (fun _ _ h=>h.elim)).trans g2 (fun _ _ h=>h)) (fun k _ e=>.inl (by omega)))
   have HDD:=ae hd
   have HFZ:=ae (hX.fr.trans g2 (fun k hk e=>by omega))
   clear t1 t2 c1 c2 c1' f1 f2 g1 g2 hs1 hX hl8 hg8 hl6 hb8 hl9 hd
   refine wp_region_held_drew (S:=(fun W:World=>W.rangeAt (w.heap.size+1+1) 0 V∧W.rangeAt w6.heap.size 0 [.string nm,.int .i64 (at':Nat),.int .i64 (wy:Nat)])) (by kernel_rfl) ((aa HSd) _ (Fr.refl _ _)) (fun hHeld=>?_)
   refine cD (i:=0) rfl (yieldsIf_load_mid rfl 44 (.tmp 6) rfl (w.heap.size+1+1) 0 rfl _ _ (fun w h=>h.1) Tryz.underlying44 rfl (by rw[(aa HVL).1];exact Tryz.bO)) hHeld ?_
   (try simp only[Act.put,bq])
   refine cD (i:=1) rfl (yieldsIf_load_mid rfl 55 (.tmp 8) rfl w6.heap.size 0 rfl _ _ (fun w h=>h.2) Tryz.underlying55 rfl Tryz.eH) hHeld ?_
   (try simp only[Act.put,bq])
   refine wpAnyH_ready (rs:=[2]) (by kernel_rfl) (by simp) (AllReadyH.cons rfl (fun K hK=>?_) AllReadyH.nil)
   refine ck rfl 44 (.tmp 4) (.tmp 77) rfl _ _ (by simp[Act.eval]) (by simp[Act.eval]) (aa HS1) ?_
   (try clear hHeld)
   refine hK.out _ _ ((aa HSd) _ (aa HF1)) (fun hHeld=>?_)
   clear hK K
   (try simp only[Act.put,bq])
   refine wpAnyH_ready (rs:=[3]) (by kernel_rfl) (by simp) (AllReadyH.cons rfl (fun K hK=>?_) AllReadyH.nil)
   refine ck rfl 55 (.tmp 5) (.tmp 78) rfl _ _ (by simp[Act.eval]) (by simp[Act.eval]) (aa HS2) ?_
   (try clear hHeld)
   refine hK.out _ _ ((aa HSd) _ (aa HF2)) (fun hHeld=>?_)
   clear hK K
   (try simp only[Act.put,bq])
   refine wpAnyH_done (by kernel_rfl) ?_ _
   clear hHeld
   go_wp2_with fail
   exact yG (aa HC).1 (aa HC).2 rfl _ _ (by simp) (by simp) Tryz.underlying44 rfl (by rw[(aa HVL).1];exact Tryz.bO) Tryz.underlying55 rfl Tryz.eH ⟨V,by rw[aa HFK],(aa HVL).1,(aa HVL).2,fun h0=>absurd (show(da k l).2.2=0 by rw[aa HFK];exact aa HZ) h0,aa HDD,aa HFZ⟩
  ·have ez:((wy:Int) != 0)=true:=by simp;omega
   have HZ:=ae hz
   clear hz
   go_upto_region 20 with (first|((with_reducible refine aq ?_);refine ag rfl 55 (.tmp 8) (.tmp 71) rfl _ _ rfl rfl (aa HST) ?_))
   have hX:=(aa HX7).aD (Fr.refl (fun _=>False) _).drew
   have hl8:=hX.lt
   have hg8:=hX.ge
   have hl6:=(aa H57).2.2.2.1
   have hb8:=((Fr.refl (fun _=>False) w7).drew.block w6.heap.size (aa H57).2.2.1 (fun h=>h)).trans (aa H57).2.1
   have hl9:=lt_of_block hb8
   obtain⟨W1,t1,c1,f1⟩:=bA (P:=Tryz.prog) (ty:=44) bo bo hX.c4 (rfl) (Tryz.bO) jF
   have hs1:=f1.size
   obtain⟨W2,t2,c2,f2⟩:=bA (P:=Tryz.prog) (ty:=55) sd [.string nm,.int .i64 (at':Nat),.int .i64 (wy:Nat)] ((f1.block _ (by omega) (fun h=>by omega)).trans hX.c5) rfl Tryz.eH (by simp[Value.oneCell'])
   have c1':=(f2.block w.heap.size (by omega) (fun h=>by omega)).trans c1
   have g1:=f1.mono (T:=fun k=>k=w.heap.size∨k=w.heap.size+1) (fun _ _ h=>.inl h)
   have g2:=g1.trans f2 (fun k hk e=>.inr e)
   have HSd:=ae (fun W' (hf:Fr (fun k=>k=w.heap.size∨k=w.heap.size+1) _ W')=>And.intro (af ((hf.block (w.heap.size+1+1) (by omega) (fun h=>by omega)).trans hX.c6)) (af (cs:=[.string nm,.int .i64 (at':Nat),.int .i64 (wy:Nat)]) ((hf.block w6.heap.size hl9 (fun h=>by omega)).trans hb8)))
   have HS1:=ae t1
   have HS2:=ae t2
   have HF1:=ae g1
   have HF2:=ae g2
   have HC:=ae (And.intro c1' c2)
   have HVL:=ae (And.intro hX.v hX.o)
   have hd:(da k l).2.2=0→DK k l W2 V:=(aa HD) W2 (((aa H57).1.mono (T:=fun k=>k<w.heap.size+3∨w5.heap.size≤k) (fun _ _ h=>.inr h)).trans (((Fr.refl (fun _=>False) w7).drew.mono (T:=fun k=>k=w.heap.size∨k=w.heap.size+1) (fun _ _ h=>h.elim)).trans g2 (fun _ _ h=>h)) (fun k _ e=>.inl (by omega)))
   have HDD:=ae hd
   have HFZ:=ae (hX.fr.trans g2 (fun k hk e=>by omega))
   clear t1 t2 c1 c2 c1' f1 f2 g1 g2 hs1 hX hl8 hg8 hl6 hb8 hl9 hd
   refine wp_region_held_drew (S:=(fun W:World=>W.rangeAt (w.heap.size+1+1) 0 V∧W.rangeAt w6.heap.size 0 [.string nm,.int .i64 (at':Nat),.int .i64 (wy:Nat)])) (by kernel_rfl) ((aa HSd) _ (Fr.refl _ _)) (fun hHeld=>?_)
   refine cD (i:=0) rfl (wC rfl rfl) hHeld ?_
   (try simp only[Act.put,bq])
   refine cD (i:=1) rfl (yieldsIf_load_mid rfl 55 (.tmp 8) rfl w6.heap.size 0 rfl _ _ (fun w h=>h.2) Tryz.underlying55 rfl Tryz.eH) hHeld ?_
   (try simp only[Act.put,bq])
   refine wpAnyH_ready (rs:=[2]) (by kernel_rfl) (by simp) (AllReadyH.cons rfl (fun K hK=>?_) AllReadyH.nil)
   refine ck rfl 44 (.tmp 4) (.tmp 75) rfl _ _ (by simp[Act.eval]) (by simp[Act.eval]) (aa HS1) ?_
   (try clear hHeld)
   refine hK.out _ _ ((aa HSd) _ (aa HF1)) (fun hHeld=>?_)
   clear hK K
   (try simp only[Act.put,bq])
   refine wpAnyH_ready (rs:=[3]) (by kernel_rfl) (by simp) (AllReadyH.cons rfl (fun K hK=>?_) AllReadyH.nil)
   refine ck rfl 55 (.tmp 5) (.tmp 76) rfl _ _ (by simp[Act.eval]) (by simp[Act.eval]) (aa HS2) ?_
   (try clear hHeld)
   refine hK.out _ _ ((aa HSd) _ (aa HF2)) (fun hHeld=>?_)
   clear hK K
   (try simp only[Act.put,bq])
   refine wpAnyH_done (by kernel_rfl) ?_ _
   clear hHeld
   go_wp2_with fail
   exact yG (aa HC).1 (aa HC).2 rfl _ _ (by simp) (by simp) Tryz.underlying44 rfl (Tryz.bO) Tryz.underlying55 rfl Tryz.eH ⟨bo,by rw[aa HFK],rfl,jF,fun _=>rfl,fun h0=>absurd (show wy=0 by rw[aa HFK] at h0;exact h0) (aa HZ),aa HFZ⟩
theorem vM:(oZ 258 [7]).f=none∧(oZ 258 [7]).out=[4,0,0,1,258,0,0,0,1,7]:=⟨by kernel_rfl,by kernel_rfl⟩
theorem p9:(bK [4,0,0,1,2,0,0,0,1,7]).1.rq.fin.2.2=0∧(bK [4,0,0,1,2,0,0,0,1,7]).2.1=258:=⟨by kernel_rfl,by kernel_rfl⟩
theorem vL:(bK []).1.rq.fin.2.2=1:=by kernel_rfl
theorem u7 (w:World) (l:List Nat) (vs:Array Value) (t:TypeId) (hv:vs.toList=cellsOf l) (hl:l.length<9223372036854775808):vp (w.alloc (.cells vs t)) (.slice (some ⟨w.heap.size,0,none⟩) l.length l.length) l:=by
 refine⟨.inr (.inl ⟨w.heap.size,0,l.length,rfl,fun j v hj=>?_⟩),fun g o m c e=>by cases e;simp,hl⟩
 rw[World.cell?_alloc_at _ _ _ _ rfl,Nat.zero_add,← Array.getElem?_toList,hv]
 exact hj
theorem CI (E:Nat→Addr) (w:World) (hg:G6 w E) (hw:9≤w.heap.size) :
  Calls Tryz.prog 7 #[] w fun e w'=>e = .returned (.bool true)∧Fr (fun _=>False) w w':=by
 have H:=ae hg
 have HP:=ae (AK 258 [7] (.slice (some ⟨w.heap.size,0,none⟩) 1 1) E (w.alloc (.cells #[.int .u8 7] 5)) (hg.fr (aB _ _) (fun _ h=>h.elim)) (by simp;omega) (u7 w [7] #[.int .u8 7] _ rfl (by decide)) (by decide))
 clear hg
 go_enter Tryz.func7,Tryz.ntmps7
 go_wp2_with fail
 refine(aa HP).mono ?_
 rintro e w1 ⟨v,err,rfl,hown,hE,hf1⟩
 rw[vM.1] at hE
 rw[vM.2] at hown
 obtain⟨vo,vc,rfl⟩:=dF hown
 have hen:err = .nilIface:=by
  rcases hE with ⟨_,h⟩|⟨h,_⟩
  ·exact h
  ·exact absurd h (by decide)
 subst hen
 have hf01:Fr (fun _=>False) w w1:=(aB w _).trans hf1 (fun _ _ h=>h)
 have H1:=ae (And.intro hown hf01)
 clear hown hE hf1 hf01
 go_wp2_with fail
 have hfb:=aB w1 (.cells #[.int .u8 4,.int .u8 0,.int .u8 0,.int .u8 1,.int .u8 2,.int .u8 0,.int .u8 0,.int .u8 0,.int .u8 1,.int .u8 7] 5)
 refine(qn (.slice (some ⟨w1.heap.size,0,none⟩) 10 10) [4,0,0,1,2,0,0,0,1,7] E _ ((aa H).fr ((aa H1).2.trans hfb (fun _ _ h=>h)) (fun _ h=>h.elim)) (by have:=(aa H1).2.size;simp;omega) (u7 w1 [4,0,0,1,2,0,0,0,1,7] _ _ rfl (by decide)).src (by decide)).mono ?_
 rintro e w2 ⟨vs,err2,rfl,hE2,hz2,hr2,hf2⟩
 clear hz2
 obtain⟨y,rfl,hy⟩:=hr2 p9.1
 rw[p9.2]
 have hen2:err2 = .nilIface:=by
  rcases hE2 with ⟨_,h⟩|⟨h,_⟩
  ·exact h
  ·rw[p9.1] at h;exact absurd h (by decide)
 subst hen2
 obtain⟨yo,yc,rfl⟩:=dF hy
 generalize (bK [4,0,0,1,2,0,0,0,1,7]).2.2.length=yn at *
 have hf02:=(aa H1).2.trans (hfb.trans hf2 (fun _ _ h=>h)) (fun _ _ h=>h)
 have hf12:=hfb.trans hf2 (fun _ _ h=>h)
 have H2:=ae (And.intro hf02 hf12)
 clear hy hr2 hE2 hf2 hfb hf02 hf12
 go_wp2_with fail
 have hfc:=aB w2 (.cells #[.int .u32 258,.slice yo yn yc] 25)
 refine(qn (.slice none 0 0) [] E _ ((aa H).fr ((aa H2).1.trans hfc (fun _ _ h=>h)) (fun _ h=>h.elim)) (by have:=(aa H2).1.size;simp;omega) (.inl ⟨rfl,rfl⟩) (by decide)).mono ?_
 rintro e w3 ⟨vs3,err3,rfl,hE3,hz3,hr3,hf3⟩
 obtain rfl:=hz3 (by rw[vL];decide)
 obtain⟨fb,rfl⟩:∃ fb,err3 = .iface 78 (.pointer (some ⟨fb,0,none⟩)):=by
  rcases hE3 with ⟨h,_⟩|⟨_,_,fb,h,_⟩
  ·rw[vL] at h;exact absurd h (by decide)
  ·exact⟨fb,h⟩
 have hf13:=(aa H2).2.trans (hfc.trans hf3 (fun _ _ h=>h)) (fun _ _ h=>h)
 have hf03:=(aa H2).1.trans (hfc.trans hf3 (fun _ _ h=>h)) (fun _ _ h=>h)
 have hcz:w3.cell? ⟨w2.heap.size,0,none⟩=some (.int .u32 258):=(hf3.cell (p:=⟨w2.heap.size,0,none⟩) (by simp) (fun h=>h)).trans (by simp)
 have hlz:=ab hcz
 have hsrc:Src w3 (.slice vo 10 vc) [4,0,0,1,258,0,0,0,1,7]:=(iy (aa H1).1).fr hf13 (fun _ _ _ _ _ h=>h)
 have H3:=ae (And.intro hsrc hf03)
 have hS0:Fr (fun _=>False) w3 w3:=Fr.refl _ _
 clear hz3 hr3 hE3 hf3 hfc hf13 hf03 hsrc
 go_wp2_with fail
 have hfd:=bd w3 (.cells #[.int .u32 0,.slice none 0 0] 25) (.cells #[.int .u8 4,.int .u8 0,.int .u8 0,.int .u8 1,.int .u8 2,.int .u8 0,.int .u8 0,.int .u8 0,.int .u8 1,.int .u8 7] 5)
 have hlit:Src ((w3.alloc (.cells #[.int .u32 0,.slice none 0 0] 25)).alloc (.cells #[.int .u8 4,.int .u8 0,.int .u8 0,.int .u8 1,.int .u8 2,.int .u8 0,.int .u8 0,.int .u8 0,.int .u8 1,.int .u8 7] 5)) (.slice (some ⟨w3.heap.size+1,0,none⟩) 10 10) [4,0,0,1,2,0,0,0,1,7]:=by
  have:=(u7 (w3.alloc (.cells #[.int .u32 0,.slice none 0 0] 25)) [4,0,0,1,2,0,0,0,1,7] #[.int .u8 4,.int .u8 0,.int .u8 0,.int .u8 1,.int .u8 2,.int .u8 0,.int .u8 0,.int .u8 0,.int .u8 1,.int .u8 7] 5 rfl (by decide)).src
  simpa using this
 refine(mA _ _ [4,0,0,1,258,0,0,0,1,7] [4,0,0,1,2,0,0,0,1,7] _ ((aa H3).1.fr hfd (fun _ _ _ _ _ h=>h)) hlit (by decide)).mono ?_
 rintro e w4 ⟨rfl,nd,rfl⟩
 have hsb:gV [4,0,0,1,258,0,0,0,1,7] [4,0,0,1,2,0,0,0,1,7]=true:=by decide
 rw[hsb]
 have hfd4:=(Fr.drewN (S:=fun _=>False) hfd nd)
 have hcz4:=(hfd4.cell (p:=⟨w2.heap.size,0,none⟩) hlz (fun h=>h)).trans hcz
 have H4:=ae ((aa H3).2.trans hfd4 (fun _ _ h=>h))
 clear hlit hsb hfd hfd4
 go_wp2_with fail
 go_ret
 exact⟨rfl,aa H4⟩
theorem VK.aD {k:Nat} {l:List Nat} {w w1:World} {vs:List Value} (h:VK k l w vs) (hf:Fr (fun _=>False) w w1):VK k l w1 vs:=by
 unfold VK at h ⊢
 repeat' split
 ·rw[if_pos (by assumption)] at h
  obtain⟨y,e,a⟩:=h
  exact⟨y,e,a.aD hf⟩
 ·rw[if_neg (by assumption),if_pos (by assumption)] at h
  obtain⟨y,z,e,a,b⟩:=h
  exact⟨y,z,e,a.aD hf,b.aD hf⟩
 ·rw[if_neg (by assumption),if_neg (by assumption),if_pos (by assumption)] at h
  obtain⟨y,z,e,a,b⟩:=h
  exact⟨y,z,e,a.aD hf,b.aD hf⟩
 ·rw[if_neg (by assumption),if_neg (by assumption),if_neg (by assumption),if_pos (by assumption)] at h
  obtain⟨y,e,a⟩:=h
  exact⟨y,e,a.aD hf⟩
 ·rw[if_neg (by assumption),if_neg (by assumption),if_neg (by assumption),if_neg (by assumption),if_pos (by assumption)] at h
  obtain⟨y,z,e,a,b⟩:=h
  exact⟨y,z,e,a.aD hf,b.aD hf⟩
 ·rw[if_neg (by assumption),if_neg (by assumption),if_neg (by assumption),if_neg (by assumption),if_neg (by assumption),if_pos (by assumption)] at h
  obtain⟨po,pc,e,a⟩:=h
  exact⟨po,pc,e,a.aD hf⟩
 ·rw[if_neg (by assumption),if_neg (by assumption),if_neg (by assumption),if_neg (by assumption),if_neg (by assumption),if_neg (by assumption)] at h
  obtain⟨y0,y1,y2,y3,y4,e,a⟩:=h
  exact⟨y0,y1,y2,y3,y4,e,a.aD hf⟩
theorem DK.aD {k:Nat} {l:List Nat} {w w1:World} {vs:List Value} (h:DK k l w vs) (hf:Fr (fun _=>False) w w1):DK k l w1 vs:=by
 unfold DK at h ⊢
 repeat' split
 ·rw[if_pos (by assumption)] at h
  obtain⟨y,e,a⟩:=h
  exact⟨y,e,a.aD hf⟩
 ·rw[if_neg (by assumption),if_pos (by assumption)] at h
  obtain⟨y,z,e,a,b⟩:=h
  exact⟨y,z,e,a.aD hf,b.aD hf⟩
 ·rw[if_neg (by assumption),if_neg (by assumption),if_pos (by assumption)] at h
  obtain⟨y,z,e,a,b,c⟩:=h
  exact⟨y,z,e,a.aD hf,dH b hf,c⟩
 ·rw[if_neg (by assumption),if_neg (by assumption),if_neg (by assumption),if_pos (by assumption)] at h
  obtain⟨y,e,a,c⟩:=h
  exact⟨y,e,dH a hf,c⟩
 ·rw[if_neg (by assumption),if_neg (by assumption),if_neg (by assumption),if_neg (by assumption),if_pos (by assumption)] at h
  obtain⟨y,z,e,a,b,c⟩:=h
  exact⟨y,z,e,dH a hf,dH b hf,c⟩
 ·rw[if_neg (by assumption),if_neg (by assumption),if_neg (by assumption),if_neg (by assumption),if_neg (by assumption),if_pos (by assumption)] at h
  obtain⟨L,po,pc,e,a,b⟩:=h
  refine⟨L,po,pc,e,a,fun j q hq=>?_⟩
  obtain⟨b1,g,o,b2,b3,b4⟩:=b j q hq
  exact⟨b1,g,o,b2,ax hf b3,dH b4 hf⟩
 ·rw[if_neg (by assumption),if_neg (by assumption),if_neg (by assumption),if_neg (by assumption),if_neg (by assumption),if_neg (by assumption)] at h
  obtain⟨y0,y1,y2,y3,y4,e,a,b,c,d,f,g⟩:=h
  exact⟨y0,y1,y2,y3,y4,e,a.aD hf,b.aD hf,c.aD hf,d.aD hf,dH f hf,g⟩
theorem Cu {w w1:World} {b:Nat} {cs:List Value} {t:TypeId} (h:w.heap[b]?=some (.cells cs.toArray t)) (hf:Fr (fun _=>False) w w1):w1.heap[b]?=some (.cells cs.toArray t):=(hf.block _ (lt_of_block h) (fun h=>h)).trans h
theorem xK (k:Nat) (h1:1≤k) (h7:k≤7) (xo:Option Addr) (xc:Nat) (l:List Nat) (E:Nat→Addr) (w:World) (hg:G7 w E) (hw:9≤w.heap.size) (hx:Src w (.slice xo l.length xc) l) (hc:l.length≤xc) (hl:l.length≤1048576) :
  Calls Tryz.prog 9 #[.int .i64 (k:Nat),.slice xo l.length xc] w fun e w'=>e = .returned (.bool true)∧Fr (fun _=>False) w w':=by
 have HG:Hid (∀ V,Fr (fun _=>False) w V→G7 V E∧9≤V.heap.size):=ae (fun V hf=>⟨hg.fr hf (fun _ h=>h.elim),Nat.le_trans hw hf.size⟩)
 have HX:=ae (show j9 w xo l.length xc l from⟨hx,rfl,hc,by omega⟩)
 have HK:=ae (And.intro h1 (And.intro h7 hl))
 clear hg hw hx hc hl h1 h7
 go_enter Tryz.func9,Tryz.ntmps9
 go_wp2_with fail
 refine(xm k (aa HK).1 (aa HK).2.1 (.slice xo l.length xc) l E w ((aa HG) _ (Fr.refl _ _)).1.g6 ((aa HG) _ (Fr.refl _ _)).2 (aa HX).hx (by have:=(aa HK).2.2;omega)).mono ?_
 rintro e w2 ⟨va,err,rfl,hva,hoa,hE,hz,hv,hf2⟩
 obtain⟨W3,hst3,hb3,hf3⟩:=bA (P:=Tryz.prog) (ty:=44) bo va (heap_alloc_new w2 (.cells bo.toArray 44)) (by rw[hva];rfl) (by rw[hva];exact Tryz.bO) hoa
 have hf23:Fr (fun _=>False) w2 W3:=(aB w2 _).trans hf3 (fun g hg e=>by omega)
 have HS3:=ae hst3
 have hf03:=hf2.trans hf23 (fun _ _ h=>h)
 have HV:=ae (And.intro hz (fun h0=>(hv h0).aD hf23))
 have HE:=ae (hE.fr hf23)
 have HB3:=ae hb3
 have HF3:=ae hf03
 have HZA:=ae hva
 clear hst3 hb3 hf3 hf23 hf03 hz hv hE hf2 hoa hva
 go_upto_region 2 with ((with_reducible refine aq ?_);refine ag rfl 44 (.tmp 5) (.tmp 13) rfl _ _ rfl rfl (aa HS3) ?_)
 clear HS3
 go_wp2_with fail
 refine(yD k (aa HK).1 (aa HK).2.1 xo xc l W3 ((aa HX).aD (aa HF3))).mono ?_
 rintro e w4 ⟨vb,rfl,hvb,hob,hz2,hd,hf4⟩
 obtain⟨nm,hnm⟩:∃ nm,(da k l).1=nm:=⟨_,rfl⟩
 obtain⟨at',hat⟩:∃ x,(da k l).2.1=x:=⟨_,rfl⟩
 obtain⟨wy,hwy⟩:∃ x,(da k l).2.2=x:=⟨_,rfl⟩
 have hfin:da k l=(nm,at',wy):=by rw[← hnm,← hat,← hwy]
 rw[hnm,hat,hwy]
 have hk2:=xk w4 (.cells bo.toArray 44) (.cells sd.toArray 55)
 obtain⟨W5,hst5,hb5,hf5⟩:=bA (P:=Tryz.prog) (ty:=44) bo vb hk2.1 (by rw[hvb];rfl) (by rw[hvb];exact Tryz.bO) hob
 obtain⟨W6,hst6,hb6,hf6⟩:=bA (P:=Tryz.prog) (ty:=55) sd [.string nm,.int .i64 (at':Nat),.int .i64 (wy:Nat)] ((hf5.block _ (by rw[hk2.2.2];omega) (fun h=>by omega)).trans hk2.2.1) rfl Tryz.eH (by simp[Value.oneCell'])
 have hs5:=hf5.size
 rw[hk2.2.2] at hs5
 have hb56:=(hf6.block w4.heap.size (by omega) (fun h=>by omega)).trans hb5
 have hf46:Fr (fun _=>False) w4 W6:=(((Fr.refl (fun _=>False) w4).alloc _).alloc _).trans ((hf5.mono (T:=fun k=>k=w4.heap.size∨k=w4.heap.size+1) (fun _ _ h=>.inl h)).trans hf6 (fun k _ h=>.inr h)) (fun k hk e=>by omega)
 have hf36:=hf4.trans hf46 (fun _ _ h=>h)
 have hf06:=(aa HF3).trans hf36 (fun _ _ h=>h)
 have HS5:=ae hst5
 have HS6:=ae hst6
 have HR1:=ae (af (Cu (aa HB3) hf36))
 have HR2:=ae (af hb56)
 have HB6:=ae hb6
 have HZ1:Hid ((Tryz.prog.info? 44).map (·.size)=some va.length):=ae (by rw[aa HZA];exact Tryz.bO)
 have HZ2:Hid ((Tryz.prog.info? 44).map (·.size)=some vb.length):=ae (by rw[hvb];exact Tryz.bO)
 have hsame:Calls Tryz.prog 18 #[.agg va.toArray,.agg vb.toArray] W6 fun e w'=>e = .returned (.bool true)∧Fr (fun _=>False) W6 w':=by
  by_cases h0:(da k l).2.2=0
  ·exact AV k (aa HK).1 (aa HK).2.1 (((aa HV).2 h0).aD hf36) ((hd h0).aD hf46)
  ·rw[(aa HV).1 h0,hz2 h0]
   exact A7 W6
 have HSM:=ae hsame
 have hE6:=(aa HE).fr hf36
 rw[hfin] at hE6
 have HE6:=ae hE6
 have HF6:=ae hf06
 clear hst5 hst6 hb5 hb6 hf5 hf6 hs5 hb56 hf46 hf36 hf06 hk2 hsame hE6 hvb hob hz2 hd hf4 hnm hat hwy hfin HV HE HB3 HF3 HZA
 go_upto_region 3 with (first|((with_reducible refine aq ?_);refine ag rfl 44 (.tmp 7) (.tmp 19) rfl _ _ rfl rfl (aa HS5) ?_)|((with_reducible refine aq ?_);refine ag rfl 55 (.tmp 8) (.tmp 20) rfl _ _ rfl rfl (aa HS6) ?_))
 clear HS5 HS6
 go_wp2_with (first|((with_reducible refine av 21 ?_);refine wpList_load_mid rfl 44 (.tmp 5) rfl w2.heap.size 0 rfl _ _ (aa HR1) Tryz.underlying44 rfl (aa HZ1) ?_)|((with_reducible refine av 22 ?_);refine wpList_load_mid rfl 44 (.tmp 7) rfl w4.heap.size 0 rfl _ _ (aa HR2) Tryz.underlying44 rfl (aa HZ2) ?_))
 refine(aa HSM).mono ?_
 rintro e w7 ⟨rfl,hf7⟩
 have HR3:=ae (af (Cu (aa HB6) hf7))
 have hE7:=(aa HE6).fr hf7
 have HF7:=ae ((aa HF6).trans hf7 (fun _ _ h=>h))
 clear hf7 HE6 HF6 HSM HR1 HR2 HZ1 HZ2 HB6
 rcases hE7 with ⟨h0,rfl⟩|⟨h1,h7,fb,rfl,hb⟩
 ·simp only at h0
  subst h0
  go_wp2_with ((with_reducible refine av 26 ?_);refine ar rfl 55 (.tmp 8) rfl (w4.heap.size+1) 0 rfl _ _ (aa HR3) Tryz.underlying55 rfl Tryz.eH ?_)
  refine(Am nm (at':Nat) _).mono ?_
  rintro e w8 ⟨rfl,hf8⟩
  have HF8:=ae ((aa HF7).trans hf8 (fun _ _ h=>h))
  clear hf8
  go_wp2_with fail
  go_ret
  exact⟨rfl,aa HF8⟩
 ·have HT:=ae (And.intro h1 (And.intro h7 hb))
  clear h1 h7 hb
  go_wp2_with ((with_reducible refine av 26 ?_);refine ar rfl 55 (.tmp 8) rfl (w4.heap.size+1) 0 rfl _ _ (aa HR3) Tryz.underlying55 rfl Tryz.eH ?_)
  refine(uF wy fb at' nm E _ ((aa HG) _ (aa HF7)).1 (aa HT).1 (aa HT).2.1 (aa HT).2.2).mono ?_
  rintro e w8 ⟨rfl,hf8⟩
  have HF8:=ae ((aa HF7).trans hf8 (fun _ _ h=>h))
  clear hf8
  go_wp2_with fail
  go_ret
  exact⟨rfl,aa HF8⟩
theorem wI (z:Int) (xo:Option Addr) (xc:Nat) (l:List Nat) (E:Nat→Addr) (w:World) (hg:G7 w E) (hw:9≤w.heap.size) (hx:Src w (.slice xo l.length xc) l) (hc:l.length≤xc) (hl:l.length≤1048576) :
  Calls Tryz.prog 5 #[.int .i64 z,.slice xo l.length xc] w fun e w'=>e = .returned (.bool true)∧Fr (fun _=>False) w w':=by
 have HA:=ae (CI E w hg.g6 hw)
 have HG:Hid (∀ V,Fr (fun _=>False) w V→G7 V E∧9≤V.heap.size):=ae (fun V hf=>⟨hg.fr hf (fun _ h=>h.elim),Nat.le_trans hw hf.size⟩)
 have H:=ae (And.intro hx (And.intro hc hl))
 clear hg hw hx hc hl
 go_enter Tryz.func5,Tryz.ntmps5
 go_wp2_with fail
 refine(aa HA).mono ?_
 rintro e w1 ⟨rfl,hf1⟩
 have HF1:=ae hf1
 clear hf1 HA
 go_wp2_with fail
 refine(zP z w1).mono ?_
 rintro e w2 ⟨⟨k,rfl,k1,k7⟩,rfl⟩
 have HK:=ae (And.intro k1 k7)
 clear k1 k7
 go_wp2_with fail
 refine(xK k (aa HK).1 (aa HK).2 xo xc l E w2 ((aa HG) _ (aa HF1)).1 ((aa HG) _ (aa HF1)).2 ((aa H).1.fr (aa HF1) (fun _ _ _ _ _ h=>h)) (aa H).2.1 (aa H).2.2).mono ?_
 rintro e w3 ⟨rfl,hf3⟩
 have HF3:=ae ((aa HF1).trans hf3 (fun _ _ h=>h))
 clear hf3
 go_wp2_with fail
 go_ret
 exact⟨rfl,aa HF3⟩
end Go.Proofs.YtdcopmkgmbiikaaGreatDoor
namespace Go.Proofs.YtdcopmkgmbiikaaGreatDoor
open Go.ChangeShapes Go.WideShapes Go.ChangeAt Go.RowKit
theorem AF {W:World} (h:W.ShapedOpen Tryz.prog):9≤W.heap.size:=by
 obtain⟨cs,hc,_⟩:=h.1 8 #[.bool false] 4 (by decide +kernel) (by kernel_rfl)
 rcases Nat.lt_or_ge 8 W.heap.size with hx|hx
 ·exact hx
 ·rw[Array.getElem?_eq_none hx] at hc;cases hc
theorem Fr.low {w w':World} (h:Fr (fun _=>False) w w'):Below w.heap.size w w':=⟨h.os,h.tape,h.output,h.size,fun k hk=>h.block k hk (fun x=>x)⟩
noncomputable def errLow:Nat:=(World.holding Tryz.prog default ⟨#[],#[],[]⟩).heap.size
noncomputable def errWorld (os:Os):World:=
 let w0:=World.holding Tryz.prog os ⟨#[.cells #[.string ⟨#[116,111,111,32,102,101,119,32,98,121,116,101,115]⟩] 359,.cells #[.string ⟨#[116,111,111,32,108,111,110,103]⟩] 359,.cells #[.string ⟨#[98,121,116,101,115,32,98,101,104,105,110,100,32,116,104,101,32,101,110,100]⟩] 359,.cells #[.string ⟨#[97,32,110,117,109,98,101,114,32,116,104,97,116,32,109,97,121,32,110,111,116,32,98,101]⟩] 359,.cells #[.string ⟨#[110,111,32,115,117,99,104,32,107,105,110,100]⟩] 359,.cells #[.string ⟨#[110,111,116,32,105,110,32,111,114,100,101,114]⟩] 359,.cells #[.string ⟨#[111,119,110]⟩] 359],#[],[]⟩
 { w0 with heap:=(((((((w0.heap.modify 0 fun
   | .cells _ t frozen=>.cells #[.iface 339 (.pointer (some ⟨errLow+0,0,none⟩))] t frozen
   | o=>o).modify 3 fun
   | .cells _ t frozen=>.cells #[.iface 339 (.pointer (some ⟨errLow+1,0,none⟩))] t frozen
   | o=>o).modify 1 fun
   | .cells _ t frozen=>.cells #[.iface 339 (.pointer (some ⟨errLow+2,0,none⟩))] t frozen
   | o=>o).modify 4 fun
   | .cells _ t frozen=>.cells #[.iface 339 (.pointer (some ⟨errLow+3,0,none⟩))] t frozen
   | o=>o).modify 5 fun
   | .cells _ t frozen=>.cells #[.iface 339 (.pointer (some ⟨errLow+4,0,none⟩))] t frozen
   | o=>o).modify 6 fun
   | .cells _ t frozen=>.cells #[.iface 339 (.pointer (some ⟨errLow+5,0,none⟩))] t frozen
   | o=>o).modify 7 fun
   | .cells _ t frozen=>.cells #[.iface 339 (.pointer (some ⟨errLow+6,0,none⟩))] t frozen
   | o=>o) }
end Go.Proofs.YtdcopmkgmbiikaaGreatDoor
namespace Go.Proofs.YtdcopmkgmbiikaaGreatDoor
open Go.ChangeShapes Go.WideShapes Go.ChangeAt Go.RowKit Go.Deep
theorem zo {H:Type} (d:DataW H):1≤Rows.uptoBulk d:=by
 unfold Rows.uptoBulk
 split <;> omega
theorem sI {H:Type} : ∀ l:List (DataW H),l.length≤Rows.uptoBulkAll l
 | []=>Nat.zero_le _
 | d::r=>by
  have h1:=zo d
  have h2:=sI r
  simp only[Rows.uptoBulkAll,List.length_cons]
  omega
theorem rI {H:Type} {enc:TypeId × Value→H} {W:World} {fuel:Nat} {v:Value} {d:DataW H} {p:List MemPlace} (hf:DataW.trod enc Tryz.prog W 0 (fun _=>true) true fuel 23 [v]=some (d,p)) :
  ∃ l:List Nat,Src W v l∧(∀ u∈l,u<256)∧(∀ ao n c,v = .slice ao n c→n≤c)∧(l=[]∨∀ g o n c,v = .slice (some ⟨g,o,none⟩) n c→g<W.heap.size)∧l.length≤Rows.uptoBulk d:=by
 rcases open_ints Tryz.underlying23 Tryz.underlying5 Tryz.AM hf with ⟨hcs,hx⟩|⟨a,len,cap,zs,hcs,_,hl,hm,hz,hx,hcell,hwz⟩
 ·simp only[List.cons.injEq,and_true] at hcs
  subst hcs
  exact⟨[],.inl ⟨rfl,rfl⟩,(fun _ h=>by cases h),fun _ _ _ e=>by cases e;exact Nat.le_refl _,.inl rfl,Nat.zero_le _⟩
 ·simp only[List.cons.injEq,and_true] at hcs
  subst hcs
  simp only[Prod.mk.injEq] at hx
  obtain⟨rfl,-⟩:=hx
  simp only[if_true] at hz
  have hlen:((zs.take len).map Int.toNat).length=len:=by simp;omega
  have hbulk:len≤Rows.uptoBulk (DataW.slice (lits .u8 (zs.take len)) (lits .u8 (zs.drop len)):DataW H):=by
   have h1:=sI (lits .u8 (zs.take len):List (DataW H))
   have h2:(lits .u8 (zs.take len):List (DataW H)).length=len:=by simp[lits];omega
   simp only[Rows.uptoBulk]
   omega
  by_cases h0:len=0
  ·subst h0
   exact⟨[],.inr (.inr ⟨a,cap,rfl,rfl⟩),(fun _ h=>by cases h),fun _ _ _ e=>by cases e;exact Nat.zero_le _,.inl rfl,Nat.zero_le _⟩
  ·obtain⟨b,off,rfl,hc⟩:=ints_at hcell (show 0<zs.length by omega)
   have hw:∀ j,j<zs.length→0≤zs.getD j 0∧zs.getD j 0<256:=fun j hj=>by
    have:=bounds_u8 (hwz (zs.getD j 0) (by simp[List.getD,hj]))
    omega
   refine⟨(zs.take len).map Int.toNat,.inr (.inl ⟨b,off,cap,by rw[hlen],fun j v hv=>?_⟩),fun u hu=>?_,fun _ _ _ e=>by cases e;omega,.inr fun g o n c e=>?_,by rw[hlen];exact hbulk⟩
   ·have hj:j<len:=by
     have:=(List.getElem?_eq_some_iff.1 hv).1
     simp[cellsOf] at this;omega
    rw[hc j (by omega)]
    have hw:=hw j (by omega)
    rw[← hv]
    simp[cellsOf,B,hj,show j<zs.length by omega] at hw ⊢
    omega
   ·obtain⟨z,hz1,rfl⟩:=List.mem_map.1 hu
    obtain⟨j,hj,rfl⟩:=List.getElem_of_mem (List.mem_of_mem_take hz1)
    have:=hw j hj
    rw[List.getD,List.getElem?_eq_getElem hj,Option.getD_some] at this
    omega
   ·simp only[Value.slice.injEq,Option.some.injEq,Addr.mk.injEq] at e
    have:=ab (hc 0 (by omega))
    rw[← e.1.1]
    exact this
theorem lQ {H:Type} {enc:TypeId × Value→H} {W:World} {base:Nat} {v:Value} {d:DataW H} {p:List MemPlace} (hval:Value.okWide Tryz.prog W .any base 23 v) (h:DataW.Trod enc Tryz.prog W 0 (fun _=>true) true 23 v d p) (hk:Rows.uptoBulk d≤1048576) :
  ∃ yo yc sig,v = .slice yo (sig:List Nat).length yc∧vp W (.slice yo sig.length yc) sig∧sig.length≤yc∧sig.length≤1048576:=by
 obtain⟨a0,len,cap,rfl⟩:=okWide_slice Tryz.underlying23 hval
 obtain⟨fuel,hf⟩:=h
 obtain⟨l,h1,_,h3,h4,h5⟩:=rI (by simpa[Value.cells] using hf)
 obtain⟨yo,yc,e⟩:=h1.form
 refine⟨yo,yc,l,e,?_,h3 _ _ _ e,by omega⟩
 rw[← e]
 refine⟨h1,fun g o m c e2=>?_,by omega⟩
 simp only[Value.slice.injEq] at e2
 obtain⟨rfl,-,-⟩:=e2
 have hh:Cell.ok Tryz.prog W .any base 23 (.slice (some ⟨g,o,none⟩) len cap):=by
  unfold Value.okWide Cell.okWide at hval
  simpa[Tryz.underlying23] using hval
 unfold Cell.ok at hh
 simp only[Tryz.underlying23] at hh
 obtain⟨_,_,_,_,row,cells,hs,_⟩:=hh
 rcases Nat.lt_or_ge g W.heap.size with hx|hx
 ·exact hx
 ·simp[World.shape?,Array.getElem?_eq_none hx] at hs
end Go.Proofs.YtdcopmkgmbiikaaGreatDoor
namespace Go.Proofs.YtdcopmkgmbiikaaGreatDoor
open Go.ChangeShapes Go.WideShapes Go.ChangeAt Go.RowKit
theorem Tryz.etG : Tryz.prog.globalNamed "errors.errorType" = some 2 := by kernel_rfl
theorem Tryz.rtT : (Tryz.prog.cutTypes.find? (·.1 == "internal/reflectlite.rtype")).map (·.2) = some 163 := by kernel_rfl
theorem Tryz.CE:((List.range Tryz.prog.types.size).filter fun t=>Tryz.prog.rowNamed t [101,114,114,111,114])=[49]:=by kernel_rfl
theorem Tryz.CL:typeHandle Tryz.prog 49 = .pointer (some ⟨9,49,none⟩):=by kernel_rfl
def Cw : List (String × DataW Unit) := [("almoner/api.ErrShort", Rows.laid_almoner_api_ErrShort), ("almoner/api.ErrLong", Rows.laid_almoner_api_ErrLong), ("almoner/api.ErrTrailing", Rows.laid_almoner_api_ErrTrailing), ("almoner/api.ErrRange", Rows.laid_almoner_api_ErrRange), ("almoner/api.ErrKind", Rows.laid_almoner_api_ErrKind), ("almoner/api.ErrOrder", Rows.laid_almoner_api_ErrOrder), ("almoner/almonerlaw1.own", Rows.laid_almoner_almonerlaw1_own)]
theorem uy {W : World} (h : handlesMet Tryz.prog [("errors.errorType", Rows.laid_errors_errorType)] W) : Et W := by
 obtain⟨name,u,ty,e1,e2,e3,e4,e5⟩:=h _ (List.mem_singleton.2 rfl)
 have en:name=[101,114,114,111,114]:=(Option.some.inj e1).symm
 subst en
 obtain rfl:=Option.some.inj (Tryz.rtT.symm.trans e2)
 have hm:ty∈(List.range Tryz.prog.types.size).filter fun t=>Tryz.prog.rowNamed t [101,114,114,111,114]:=List.mem_filter.2 ⟨List.mem_range.2 e3,e4⟩
 rw[Tryz.CE] at hm
 obtain rfl:=List.mem_singleton.1 hm
 rw[Tryz.CL] at e5
 unfold Et
 simpa using World.var?_cell Tryz.etG e5 0
theorem ti {W : World} (h : laidMetH Tryz.prog (("errors.errorType", Rows.laid_errors_errorType) :: Cw) W) : ∃ E, G7 W E := by
 have h' : laidMet Tryz.prog Cw W ∧ handlesMet Tryz.prog [("errors.errorType", Rows.laid_errors_errorType)] W := h
 obtain⟨a1,h1⟩:=cO h'.1 (.head _) (g:=0) (by kernel_rfl) (by kernel_rfl)
 obtain⟨a2,h2⟩:=cO h'.1 (.tail _ (.head _)) (g:=3) (by kernel_rfl) (by kernel_rfl)
 obtain⟨a3,h3⟩:=cO h'.1 (.tail _ (.tail _ (.head _))) (g:=1) (by kernel_rfl) (by kernel_rfl)
 obtain⟨a4,h4⟩:=cO h'.1 (.tail _ (.tail _ (.tail _ (.head _)))) (g:=4) (by kernel_rfl) (by kernel_rfl)
 obtain⟨a5,h5⟩:=cO h'.1 (.tail _ (.tail _ (.tail _ (.tail _ (.head _))))) (g:=5) (by kernel_rfl) (by kernel_rfl)
 obtain⟨a6,h6⟩:=cO h'.1 (.tail _ (.tail _ (.tail _ (.tail _ (.tail _ (.head _)))))) (g:=6) (by kernel_rfl) (by kernel_rfl)
 obtain⟨a7,h7⟩:=cO h'.1 (.tail _ (.tail _ (.tail _ (.tail _ (.tail _ (.tail _ (.head _))))))) (g:=7) (by kernel_rfl) (by kernel_rfl)
 exact⟨fun n=>if n=1 then a1 else if n=2 then a2 else if n=3 then a3 else if n=4 then a4 else if n=5 then a5 else if n=6 then a6 else a7,⟨h1,h2,h3⟩,h4,h5,h6,h7,uy h'.2⟩
noncomputable def errWorld8 (os:Os):World:=
 let w0:=errWorld os
 { w0 with heap:=w0.heap.modify 2 fun
   | .cells _ t frozen=>.cells #[.iface 163 (.agg #[.pointer (some ⟨9,49,none⟩)])] t frozen
   | o=>o }
theorem mL (H:Type) (enc:TypeId × Value→H) (W:World) (base:Nat) (args:Array Value) (ds gs:List (DataW H)) (before:List MemPlace)
  (hval:∀ (j:Nat) t v,Tryz.f5.params[j]?=some t→args[j]?=some v→Value.okWide Tryz.prog W .any base t v)
  (hW:DataW.Whole enc Tryz.prog Tryz.f5.params.toList Rows.wireGetsSpec.vars false W args.toList ds gs before) (hk:Rows.uptoSmall H (ds++gs)=true) (hL:laidMetH Tryz.prog Rows.wireGetsUptoRow.laid W) (hsh:W.ShapedOpen Tryz.prog) :
  Calls Tryz.prog 5 args W fun e W'=>∃ v,e = .returned v∧Rows.wireGetsSpec.post enc Tryz.prog Tryz.f5 false true false false W args v W':=by
 have hW':=hW
 obtain⟨p,q,hA0,hV,rfl,hfz,hnd⟩:=hW
 have hA:DataW.TrodAll enc Tryz.prog W 0 (fun _=>true) true Tryz.f5.params.toList args.toList ds p:=hA0
 rw[Tryz.params5] at hA hval
 obtain⟨v0,vs0,d0,ds0,p0,q0,hargs,rfl,rfl,h0,r0⟩:=trodAll_cons hA
 obtain⟨v1,vs1,d1,ds1,p1,q1,rfl,rfl,rfl,h1,r1⟩:=trodAll_cons r0
 obtain⟨rfl,rfl,rfl⟩:=trodAll_nil r1
 obtain rfl:args = #[v0,v1]:=by cases args;simp_all
 obtain⟨rfl,rfl⟩:=trodVars_none hV
 have hbulk:Rows.uptoBulk d0+(Rows.uptoBulk d1+0)≤1048576:=by
  have h:=of_decide_eq_true hk
  simpa only[List.append_nil,Rows.uptoBulkAll] using h
 obtain⟨z0,rfl,rfl,rfl,w0⟩:=open_int Tryz.underlying3 (hval 0 3 v0 rfl rfl) h0
 obtain⟨yo,yc,l,rfl,hS,hcap,hlb⟩:=lQ (hval 1 23 v1 rfl rfl) h1 (by omega)
 obtain⟨E,hg⟩:=ti hL
 refine(wI z0 yo yc l E W hg (AF hsh) hS.src hcap hlb).mono fun e W' ⟨he,hf⟩=>?_
 subst he
 have hlt:∀ x∈[]++(p1++[]),x.block<W.heap.size:=fun x hx=>hW'.lt x (by simpa using hx)
 have hb:=hf.low
 refine⟨_,rfl,_,_,_,[],[]++(p1++[]),[],hW',?_,?_,?_,hb.frame _,fun h=>by cases h⟩
 ·exact trodAll_cons_mk (shut_bool Tryz.underlying4 true) trodAll_mk0
 ·exact(trodAll_cons_mk (shut_int Tryz.underlying3 w0) (trodAll_cons_mk (Below.trod (by kernel_rfl) (by kernel_rfl) (by decide +kernel) h1 hb (fun x hx=>hlt x (by simp[hx]))) trodAll_mk0))
 ·rfl
theorem mU (os:Os):laidMetH Tryz.prog Rows.wireGetsUptoRow.laid ((errWorld8 os).forCall (fun _ _=>0) ⟨#[],#[.int .i64 0,.slice none 0 0],[]⟩).memory:=
 laidMetH_of_parts (laidMet_of_run' 8 (by kernel_rfl) (by kernel_rfl)) (by kernel_rfl)
theorem rB (os:Os) {H:Type} (enc:TypeId × Value→H):∃ places,DataW.whole enc Tryz.prog ((errWorld8 os).forCall (fun _ _=>0) ⟨#[],#[.int .i64 0,.slice none 0 0],[]⟩).memory Tryz.f5.params.toList Rows.wireGetsSpec.vars false #[Value.int .i64 0,.slice none 0 0].toList 8=some ([.lit (.int .i64 0),.nil],[],places):=
 ⟨[],by kernel_rfl⟩
theorem ql (os:Os) (started:os.Started) (H:Type) (enc:TypeId × Value→H) (F:Stop.Interp) :
  ReturnsInHanded {} Tryz.checked os 5 .any ((Rows.OpenSpec.upto Rows.wireGetsSpec).preRow enc Tryz.prog Tryz.f5 Rows.wireGetsUptoRow.domain false Rows.wireGetsUptoRow.laid) (((Rows.OpenSpec.upto Rows.wireGetsSpec).at F).post enc Tryz.prog Tryz.f5 false true false false):=by
 obtain⟨places,hx⟩:=rB os enc
 refine returnsInHanded_of_row (C:=Tryz.checked) (s:=Rows.OpenSpec.upto Rows.wireGetsSpec) Tryz.ownKnob started (by kernel_rfl) Tryz.func5
  (witness_row_atRef (enc:=enc) (C:=Tryz.checked) false (errWorld8 os) #[.int .i64 0,.slice none 0 0] rfl (by kernel_rfl) (by kernel_rfl) (by kernel_rfl)
   (OpenSpec.preRow_of_cond 8 hx (by kernel_rfl) (fun k hk=>by cases hk;kernel_rfl) (by kernel_rfl) (mU os))) ?_
 intro W base args ds gs before hval hW _ hcond _ hL hsh _
 exact mL H enc W base args ds gs before hval hW (hcond _ rfl) hL hsh
theorem tN:Rows.WireGetsUptoSaid:=
 OpenClaim.holds_of_cond 5 Tryz.f5 rfl rfl rfl rfl rfl rfl rfl ⟨rfl,rfl,rfl,rfl,rfl⟩ rfl rfl rfl rfl rfl (by kernel_rfl) Tryz.func5 (by kernel_rfl)
  (of_decide_eq_true (by kernel_rfl)) (by unfold Func.isWrapper;first|(rw[if_pos (by decide +kernel)];kernel_rfl)|(rw[if_neg (by decide +kernel)];exact⟨rfl,rfl⟩))
  (fun os started H enc _ F=>by rw[OpenClaim.pre_eq_preRow];exact ql os started H enc F)
theorem sE (f:FuncId) (fn:Func) (hf:Tryz.pinned.checked.prog.funcNamed Rows.wireGetsUptoRow.func=some f) (hfn:Tryz.pinned.checked.prog.funcs[f]?=some fn) :
  true=Tryz.pinned.checked.prog.looks []∧∀ (j:Nat) t,fn.params[j]?=some t→Tryz.pinned.checked.prog.wantsStandIn t=false:=by
 obtain rfl:f=5:=Option.some.inj ((show Tryz.prog.funcNamed Rows.wireGetsUptoRow.func=some 5 by kernel_rfl).symm.trans hf) |>.symm
 obtain rfl:fn=Tryz.f5:=(Option.some.inj (Tryz.func5.symm.trans hfn)).symm
 refine⟨by kernel_rfl,fun j t ht=>?_⟩
 rw[Tryz.params5] at ht
 have hm:=Array.mem_of_getElem? ht
 simp at hm
 rcases hm with rfl|rfl
 ·exact(show Tryz.prog.wantsStandIn 3=false by kernel_rfl)
 ·exact(show Tryz.prog.wantsStandIn 23=false by kernel_rfl)
theorem wgets_card:Rows.WireGetsUptoCardSaid:=
 Claim7.holds_tied_plain_at .later [] _ _ _ _ tN (fun _ h=>by cases h) (by kernel_rfl) (fun _ h=>by cases h) wireGetsUpto_row_tie rfl ⟨rfl,rfl⟩ (by kernel_rfl) rfl sE (by kernel_rfl)
#print axioms wgets_card
end Go.Proofs.YtdcopmkgmbiikaaGreatDoor
