import Derived.Test.YtdcopmkgmbiikaaGreatDoorPn8
import Derived.Test.YtdcopmkgmbiikaaGreatDoorPn4
import Derived.Test.YtdcopmkgmbiikaaGreatDoorPn7
import Derived.Maps.AppendAt
import Derived.Deep.MidRow
import Derived.Test.YtdcopmkgmbiikaaGreatDoorPn3
import Derived.Deep.CutRange
import Derived.Test.YtdcopmkgmbiikaaGreatDoorJTld
import Derived.Test.YtdcopmkgmbiikaaGreatDoorPn6
import Derived.Test.YtdcopmkgmbiikaaGreatDoorPn1
import Derived.Test.YtdcopmkgmbiikaaGreatDoorCards
import Derived.Test.YtdcopmkgmbiikaaGreatDoorTie
set_option maxRecDepth 100000
set_option maxHeartbeats 8000000
set_option linter.unusedSimpArgs false
namespace Go.Proofs.YtdcopmkgmbiikaaGreatDoor
open Go.RowKit
def Q.v2 (q:Q):Q × Nat:=q.cE jA 4
def Q.v4 (q:Q) (i:Nat):Q × Nat:=(q.v2.1.AY i).pL
def Q.v5 (q:Q) (i:Nat):Q × List Nat:=(q.v4 i).1.many fS 1 32
def Q.vev (q:Q) (i:Nat):gw:=⟨q.v2.2,q.v2.1.AZ i,(q.v4 i).2,(q.v5 i).2⟩
structure QL (a b:Q):Prop where
 all:a.all=b.all
 f:a.f=b.f
 eq:a.f=none→a=b
theorem QL.refl (a:Q):QL a a:=⟨rfl,rfl,fun _=>rfl⟩
theorem Q.go_given {q:Q} (hf:q.f≠none) (k m:Int) (hk:k≠10):q.go k m=(q,0,[]):=by
 unfold Q.go Q.step
 rw[if_neg hk,if_pos hf]
theorem QL.go {a b:Q} (h:QL a b) (nm:ByteArray) (k m:Int) (hk:k≠10):QL ((a.aj nm).go k m).1 ((b.named nm).go k m).1∧((a.aj nm).go k m).2=((b.named nm).go k m).2:=by
 by_cases hf:a.f=none
 ·obtain rfl:=h.eq hf
  have e:a.aj nm=a.named nm:=by unfold Q.aj;rw[if_pos hf]
  rw[e]
  exact⟨QL.refl _,rfl⟩
 ·have e:a.aj nm=a:=by unfold Q.aj;rw[if_neg hf]
  have hb:(b.named nm).f≠none:=by show b.f≠none;rw[← h.f];exact hf
  rw[e,Q.go_given hf k m hk,Q.go_given hb k m hk]
  exact⟨⟨h.all,h.f,fun hx=>absurd hx hf⟩,rfl⟩
theorem QL.ah {a b:Q} (h:QL a b) {n m:Nat} (hnm:a.f=none→n=m):QL (a.ah n) (b.ah m):=by
 by_cases hf:a.f=none
 ·obtain rfl:=h.eq hf
  rw[hnm hf]
  exact QL.refl _
 ·have hb:b.f≠none:=by rw[← h.f];exact hf
  unfold Q.ah
  rw[if_pos (.inr hf),if_pos (.inr hb)]
  exact⟨h.all,h.f,fun hx=>absurd hx hf⟩
theorem Q.aO (q:Q):q.ah 0=q:=by unfold Q.ah;rw[if_pos (.inl rfl)]
theorem QL.u8 {a b:Q} (h:QL a b) (nm:ByteArray) (rs:List (Nat→Nat)) (v n:Nat) (hn:n=fb rs (a.cE nm 1).2):∃ b',(CS.rd b).fe nm rs v=(.rd b',(a.cE nm 1).2)∧QL ((a.cE nm 1).1.ah n) b':=by
 obtain⟨h1,h2⟩:=h.go nm 1 0 (by decide)
 have e:(a.cE nm 1).2=((b.named nm).go 1 0).2.1:=congrArg Prod.fst h2
 refine⟨_,?_,h1.ah (m:=fb rs ((b.named nm).go 1 0).2.1) (fun _=>by rw[hn,e])⟩
 rw[e]
 rfl
theorem QL.u32 {a b:Q} (h:QL a b) (nm:ByteArray) (rs:List (Nat→Nat)) (v n:Nat) (hn:n=fb rs (a.cE nm 4).2):∃ b',(CS.rd b).bL nm rs v=(.rd b',(a.cE nm 4).2)∧QL ((a.cE nm 4).1.ah n) b':=by
 obtain⟨h1,h2⟩:=h.go nm 4 0 (by decide)
 have e:(a.cE nm 4).2=((b.named nm).go 4 0).2.1:=congrArg Prod.fst h2
 refine⟨_,?_,h1.ah (m:=fb rs ((b.named nm).go 4 0).2.1) (fun _=>by rw[hn,e])⟩
 rw[e]
 rfl
theorem QL.f32 {a b:Q} (h:QL a b) (nm:ByteArray) (rs:List (Nat→Nat)) (v n:Nat) (hn:n=fb rs (a.cE nm 5).2):∃ b',(CS.rd b).gq nm rs v=(.rd b',(a.cE nm 5).2)∧QL ((a.cE nm 5).1.ah n) b':=by
 obtain⟨h1,h2⟩:=h.go nm 5 0 (by decide)
 have e:(a.cE nm 5).2=((b.named nm).go 5 0).2.1:=congrArg Prod.fst h2
 refine⟨_,?_,h1.ah (m:=fb rs ((b.named nm).go 5 0).2.1) (fun _=>by rw[hn,e])⟩
 rw[e]
 rfl
theorem QL.CW {a b:Q} (h:QL a b) (nm:ByteArray) (lo m:Int) (rs:List (List Nat→Nat)) (v:List Nat) (n:Nat) (hn:(a.many nm lo m).1.f=none→n=fb rs (a.many nm lo m).2) (hn2:((((a.many nm lo m).2.length:Nat):Int)<lo→fb rs (a.many nm lo m).2=4)):∃ b',(CS.rd b).eR nm m rs v=(.rd b',(a.many nm lo m).2)∧QL ((a.many nm lo m).1.ah n) b':=by
 obtain⟨h1,h2⟩:=h.go nm 6 m (by decide)
 have e:(a.many nm lo m).2=((b.named nm).go 6 m).2.2:=congrArg Prod.snd h2
 refine⟨((b.named nm).go 6 m).1.ah (fb rs ((b.named nm).go 6 m).2.2),?_,?_⟩
 ·rw[e]
  rfl
 ·rw[← e]
  by_cases hf:((a.aj nm).go 6 m).1.f=none
  ·by_cases hl:(((a.many nm lo m).2.length:Nat):Int)<lo
   ·have e4:(a.many nm lo m).1=((a.aj nm).go 6 m).1.ah 4:=by
     show((a.aj nm).go 6 m).1.ah (if (((a.many nm lo m).2.length:Nat):Int)<lo then 4 else 0)=_
     rw[if_pos hl]
    have hne:(((a.aj nm).go 6 m).1.ah 4).f≠none:=by unfold Q.ah;rw[if_neg (by simp[hf])];simp
    have e5:(((a.aj nm).go 6 m).1.ah 4).ah n=((a.aj nm).go 6 m).1.ah 4:=by
     generalize hq:((a.aj nm).go 6 m).1.ah 4=r at hne ⊢
     unfold Q.ah
     rw[if_pos (.inr hne)]
    rw[e4,e5,hn2 hl]
    exact h1.ah (fun _=>rfl)
   ·have e4:(a.many nm lo m).1=((a.aj nm).go 6 m).1:=by
     show((a.aj nm).go 6 m).1.ah (if (((a.many nm lo m).2.length:Nat):Int)<lo then 4 else 0)=_
     rw[if_neg hl,Q.aO]
    rw[e4] at hn ⊢
    exact h1.ah hn
  ·have e4:∀ k,((a.aj nm).go 6 m).1.ah k=((a.aj nm).go 6 m).1:=fun k=>by unfold Q.ah;rw[if_pos (.inr hf)]
   have e5:(a.many nm lo m).1=((a.aj nm).go 6 m).1:=e4 _
   rw[e5]
   exact h1.ah (fun hx=>absurd hx hf)
theorem QL.int {a b:Q} (h:QL a b) (nm:ByteArray) (m:Int) (rs:List (Int→Nat)) (v:Int) (n:Nat) (hn:n=fb rs ((a.bZ nm m).2:Int)):∃ b',(CS.rd b).cv nm m rs v=(.rd b',((a.bZ nm m).2:Int))∧QL ((a.bZ nm m).1.ah n) b':=by
 obtain⟨h1,h2⟩:=h.go nm 7 m (by decide)
 have e:(a.bZ nm m).2=((b.named nm).go 7 m).2.1:=congrArg Prod.fst h2
 refine⟨_,?_,h1.ah (m:=fb rs (((b.named nm).go 7 m).2.1:Int)) (fun _=>by rw[hn,e])⟩
 rw[e]
 rfl
theorem Q.go_max (q:Q) (m:Nat):(q.go 6 m).2.2.length≤m:=by
 unfold Q.go Q.step
 dsimp only
 split
 ·exact Nat.zero_le _
 split
 ·exact Nat.zero_le _
 split
 ·exact Nat.zero_le _
 split
 ·exact Nat.zero_le _
 split
 ·exact Nat.zero_le _
 split
 ·exact Nat.zero_le _
 rename_i h
 have h2:¬ (m:Int)<(q.num 4:Int):=fun hx=>h ⟨.inl rfl,hx⟩
 split
 ·exact Nat.zero_le _
 split
 ·exact Nat.zero_le _
 ·simp
  omega
theorem Q.ei (q:Q) (nm:ByteArray) (lo:Int) (m:Nat):(q.many nm lo m).2.length≤m:=(q.aj nm).go_max m
theorem QL.manyN {a b:Q} (h:QL a b) (nm:ByteArray) (lo m:Int) (n k:Nat) (hn:(a.many nm lo m).1.f=none→n=k) (hn2:(((a.many nm lo m).2.length:Nat):Int)<lo→k=4):QL ((a.many nm lo m).1.ah n) (((b.named nm).go 6 m).1.ah k):=by
 obtain⟨b',e,hq⟩:=h.CW nm lo m [fun _=>k] [] n (fun hf=>by rw[hn hf];simp[fb]) (fun hl=>by simp[fb,hn2 hl])
 have e2:b'=((b.named nm).go 6 m).1.ah (fb [fun _=>k] ((b.named nm).go 6 m).2.2):=by
  have:=congrArg Prod.fst e
  injection this with this
  exact this.symm
 have e3:∀ l:List Nat,fb [fun _=>k] l=k:=fun l=>by simp only[fb];by_cases hk:k=0 <;> simp[hk]
 rw[e3] at e2
 rw[← e2]
 exact hq
theorem QL.str {a b:Q} (h:QL a b) (nm:ByteArray) (lo m:Int) (rs:List (ByteArray→Nat)) (v:ByteArray) (n:Nat) (hn:(a.many nm lo m).1.f=none→n=fb rs (strOf (a.many nm lo m).2)) (hn2:(((a.many nm lo m).2.length:Nat):Int)<lo→fb rs (strOf (a.many nm lo m).2)=4):∃ b',(CS.rd b).dG nm m rs v=(.rd b',strOf (a.many nm lo m).2)∧QL ((a.many nm lo m).1.ah n) b':=by
 obtain⟨_,h2⟩:=h.go nm 6 m (by decide)
 have e:(a.many nm lo m).2=((b.named nm).go 6 m).2.2:=congrArg Prod.snd h2
 refine⟨_,?_,h.manyN nm lo m n _ hn hn2⟩
 rw[e]
 rfl
theorem Q.pE {q:Q} {nm:ByteArray} {lo m:Int} (h:(q.many nm lo m).1.f=none):lo≤((q.many nm lo m).2.length:Nat):=by
 by_cases hl:(((q.many nm lo m).2.length:Nat):Int)<lo
 ·exfalso
  have e4:(q.many nm lo m).1=((q.aj nm).go 6 m).1.ah 4:=by
   show((q.aj nm).go 6 m).1.ah (if (((q.many nm lo m).2.length:Nat):Int)<lo then 4 else 0)=_
   rw[if_pos hl]
  rw[e4] at h
  unfold Q.ah at h
  split at h
  ·rename_i hx
   rcases hx with hx|hx
   ·omega
   ·exact hx h
  ·cases h
 ·omega
theorem QL.named {a b:Q} (h:QL a b) (before:ByteArray) (first gone:Bool) (hb0:first=true→before=⟨#[]⟩) :
  ∃ b' f',(CS.rd b).bB before (if gone then 3 else 2) dQ=(.rd b',f')∧QL (a.eB before first gone).1 b'∧((a.eB before first gone).1.f=none→f'=(a.eB before first gone).2):=by
 have hmx:=a.ei bE 1 64
 obtain⟨b1,e1,h1⟩:=h.str bE 1 64 [fun v=>cu 1 64 v.size,kf before] dQ.name (CX first (strOf (a.many bE 1 64).2) before) (fun hf=>by
  have hlo:=Q.pE hf
  have hm:(a.many bE 1 64).2.length≤64:=hmx
  have hz:cu 1 64 (strOf (a.many bE 1 64).2).size=0:=by
   unfold cu
   rw[fc,if_neg (by omega),if_neg (by omega)]
  rw[zb before _ (if first then 0 else 1) (fun h=>hb0 (by cases first <;> simp_all)),hz]
  cases first <;> simp[CX]) (fun hl=>by
  have hm:(a.many bE 1 64).2.length≤64:=hmx
  have hz:cu 1 64 (strOf (a.many bE 1 64).2).size=4:=by
   unfold cu
   rw[fc,if_neg (by omega),if_pos hl]
  simp only[fb]
  rw[if_neg (by rw[hz];decide)]
  exact hz)
 unfold CS.bB
 rw[e1]
 dsimp only
 unfold Q.eB
 have e0:(a.many bE 1 64).1.ah (CX first (strOf (a.many bE 1 64).2) before)=a.jl before first:=rfl
 rw[e0] at h1
 generalize a.jl before first=q1 at h1 ⊢
 generalize strOf (a.many bE 1 64).2=nm
 have hbs:({ dQ with name:=nm } : cj).beside=false:=by simp[cj.beside,dQ]
 obtain⟨b2,e2,h2⟩:=h1.u8 ay [bC 1 (if gone then 3 else 2) 5,gh false] dQ.kind (As gone (q1.cE ay 1).2) (by
  generalize (q1.cE ay 1).2=k
  simp only[fb,gh,As,bC]
  cases gone <;> simp <;> (repeat' split) <;> omega)
 unfold CS.cP
 rw[hbs,e2]
 dsimp only
 generalize (q1.cE ay 1).2=k at h2 ⊢
 generalize (q1.cE ay 1).1.ah (As gone k)=q2 at h2 ⊢
 unfold Q.uj
 by_cases k1:k=1
 ·rw[if_pos k1,if_pos k1]
  have hmt:=q2.ei dW 0 64
  obtain⟨b3,e3,h3⟩:=h2.str dW 0 64 [fun v=>cu 0 64 v.size] dQ.text 0 (fun _=>by
   have hm:(q2.many dW 0 64).2.length≤64:=hmt
   have hz:cu 0 64 (strOf (q2.many dW 0 64).2).size=0:=by
    unfold cu
    rw[fc,if_neg (by omega),if_neg (by omega)]
   simp only[fb]
   rw[if_pos hz]) (fun hl=>absurd hl (Int.not_lt.2 (Int.natCast_nonneg _)))
  rw[e3]
  rw[Q.aO] at h3
  exact⟨b3,_,rfl,h3,fun _=>rfl⟩
 rw[if_neg k1,if_neg k1]
 by_cases k2:k=2
 ·rw[if_pos k2,if_pos k2]
  obtain⟨b3,e3,h3⟩:=h2.f32 cz [] dQ.value 0 rfl
  rw[Q.aO] at h3
  rw[e3]
  dsimp only
  obtain⟨b4,e4,h4⟩:=h3.u8 dM [bC 1 21 4] dQ.unit (bC 1 21 4 ((q2.cE cz 5).1.cE dM 1).2) (by simp only[fb];split <;> simp_all)
  rw[e4]
  exact⟨b4,_,rfl,h4,fun _=>rfl⟩
 ·rw[if_neg k2,if_neg k2]
  exact⟨b2,_,rfl,h2,fun _=>rfl⟩
theorem fA (c:Q) (before:ByteArray) (last:Nat) (hc:c.f≠none):∃ c' f',(CS.rd c).bB before last dQ=(.rd c',f')∧c'.all=c.all∧c'.f=c.f:=by
 have hl:=gC (CS.rd c) before last dQ
 cases hp:(CS.rd c).bB before last dQ with
 | mk c1 f1 =>
  rw[hp] at hl
  cases c1 with
  | wr s=>exact hl.elim
  | rd c' =>
   obtain⟨x,hx⟩:=Option.ne_none_iff_exists'.1 hc
   exact⟨c',f1,rfl,hl.1,by rw[hx];exact hl.2 x hx⟩
theorem QL.loop {a b:Q} (h:QL a b) (gone:Bool):∀ i,∃ b' nm' l',fC (aU (if gone then 3 else 2)) dQ i (CS.rd b,⟨#[]⟩)=((CS.rd b',nm'),l')∧QL (a.eF gone i).1 b'∧((a.eF gone i).1.f=none→nm'=(a.eF gone i).2.2∧l'=(a.eF gone i).2.1):=by
 intro i
 induction i with
 | zero=>exact⟨b,_,_,rfl,h,fun _=>⟨rfl,rfl⟩⟩
 | succ i ih =>
  obtain⟨b',nm',l',e,hq,hv⟩:=ih
  have h0:decide (i=0)=true→(a.eF gone i).2.2=⟨#[]⟩:=fun h0=>by
   have h1:i=0:=of_decide_eq_true h0
   subst h1
   rfl
  by_cases hf:(a.eF gone i).1.f=none
  ·obtain⟨rfl,rfl⟩:=hv hf
   obtain⟨b2,f',e2,h2,hv2⟩:=hq.named (a.eF gone i).2.2 (decide (i=0)) gone h0
   refine⟨b2,f'.name,(a.eF gone i).2.1++[f'],?_,h2,fun hf2=>?_⟩
   ·simp only[fC]
    rw[e]
    simp only[aU]
    rw[e2]
   ·have:=hv2 hf2
    subst this
    exact⟨rfl,rfl⟩
  ·have hb:b'.f≠none:=by rw[← hq.f];exact hf
   obtain⟨b2,f',e2,ha2,hf2⟩:=fA b' nm' (if gone then 3 else 2) hb
   obtain⟨c1,g1,e3,h3,_⟩:=(QL.refl (a.eF gone i).1).named (a.eF gone i).2.2 (decide (i=0)) gone h0
   obtain⟨c2,g2,e4,ha4,hf4⟩:=fA (a.eF gone i).1 (a.eF gone i).2.2 (if gone then 3 else 2) hf
   rw[e4] at e3
   have e5:c2=c1:=by
    have:=congrArg Prod.fst e3
    injection this
   subst e5
   have hfx:((a.eF gone i).1.eB (a.eF gone i).2.2 (decide (i=0)) gone).1.f=(a.eF gone i).1.f:=by rw[h3.f,hf4]
   refine⟨b2,f'.name,l'++[f'],?_,⟨?_,?_,fun hx=>?_⟩,fun hx=>?_⟩
   ·simp only[fC]
    rw[e]
    simp only[aU]
    rw[e2]
   ·show((a.eF gone i).1.eB (a.eF gone i).2.2 (decide (i=0)) gone).1.all=b2.all
    rw[h3.all,ha4,ha2,hq.all]
   ·show((a.eF gone i).1.eB (a.eF gone i).2.2 (decide (i=0)) gone).1.f=b2.f
    rw[hfx,hf2,hq.f]
   ·exact absurd (hfx.symm.trans hx) hf
   ·exact absurd (hfx.symm.trans hx) hf
theorem tq (last:Nat) (c:Q) (nm:ByteArray) (hc:c.f≠none):∀ i,∃ c' nm' l',fC (aU last) dQ i (CS.rd c,nm)=((CS.rd c',nm'),l')∧c'.all=c.all∧c'.f=c.f:=by
 intro i
 induction i with
 | zero=>exact⟨c,nm,[],rfl,rfl,rfl⟩
 | succ i ih =>
  obtain⟨c',nm',l',e,h1,h2⟩:=ih
  obtain⟨c2,f',e2,ha2,hf2⟩:=fA c' nm' last (by rw[h2];exact hc)
  refine⟨c2,f'.name,l'++[f'],?_,by rw[ha2,h1],by rw[hf2,h2]⟩
  simp only[fC]
  rw[e]
  simp only[aU]
  rw[e2]
theorem oT (c:Q) (before:ByteArray) (first gone:Bool) (hb0:first=true→before=⟨#[]⟩) (hc:c.f≠none):(c.eB before first gone).1.f=c.f∧(c.eB before first gone).1.all=c.all:=by
 obtain⟨c1,g1,e3,h3,_⟩:=(QL.refl c).named before first gone hb0
 obtain⟨c2,g2,e4,ha4,hf4⟩:=fA c before (if gone then 3 else 2) hc
 rw[e4] at e3
 have e5:c2=c1:=by
  have:=congrArg Prod.fst e3
  injection this
 subst e5
 exact⟨by rw[h3.f,hf4],by rw[h3.all,ha4]⟩
theorem nU (a:Q) (gone:Bool) (i:Nat) (hf:(a.eF gone i).1.f≠none):∀ k,(a.eF gone (i+k)).1.f=(a.eF gone i).1.f∧(a.eF gone (i+k)).1.all=(a.eF gone i).1.all:=by
 intro k
 induction k with
 | zero=>exact⟨rfl,rfl⟩
 | succ k ih =>
  have h:=oT (a.eF gone (i+k)).1 (a.eF gone (i+k)).2.2 (decide (i+k=0)) gone (fun h0=>by
   have h1:i+k=0:=of_decide_eq_true h0
   rw[h1]
   rfl) (by rw[ih.1];exact hf)
  exact⟨h.1.trans ih.1,h.2.trans ih.2⟩
theorem QL.rounds {a b:Q} (h:QL a b) (gone:Bool) (i n:Nat) (hin:i≤n) (hi:i=n∨(a.eF gone i).1.f≠none):∃ b' nm' l',fC (aU (if gone then 3 else 2)) dQ n (CS.rd b,⟨#[]⟩)=((CS.rd b',nm'),l')∧QL (a.eF gone i).1 b'∧((a.eF gone i).1.f=none→l'=(a.eF gone i).2.1):=by
 obtain⟨b',nm',l',e,hq,hv⟩:=h.loop gone n
 rcases hi with rfl|hf
 ·exact⟨b',nm',l',e,hq,fun hx=>(hv hx).2⟩
 ·obtain⟨k,rfl⟩:∃ k,n=i+k:=⟨n - i,by omega⟩
  obtain⟨h1,h2⟩:=nU a gone i hf k
  exact⟨b',nm',l',e,⟨by rw[← h2,hq.all],by rw[← h1,hq.f],fun hx=>absurd hx hf⟩,fun hx=>absurd hx hf⟩
theorem QL.zW {a b:Q} (h:QL a b) (nm:ByteArray) (m:Int) (rs:List (Int→Nat)) (v:Int) (n:Nat) (hn:(a.bZ nm m).1.f=none→n=fb rs ((a.bZ nm m).2:Int)):∃ b',(CS.rd b).cv nm m rs v=(.rd b',((a.bZ nm m).2:Int))∧QL ((a.bZ nm m).1.ah n) b':=by
 obtain⟨h1,h2⟩:=h.go nm 7 m (by decide)
 have e:(a.bZ nm m).2=((b.named nm).go 7 m).2.1:=congrArg Prod.fst h2
 refine⟨_,?_,h1.ah (m:=fb rs (((b.named nm).go 7 m).2.1:Int)) (fun hf=>by rw[hn hf,e])⟩
 rw[e]
 rfl
theorem QL.fields {a b:Q} (h:QL a b) (used gone:Bool) (rs:List (Int→Nat)) (l0:List cj) (hrs:(a.bZ ak 32).1.f=none→(if used=false∧0<(a.bZ ak 32).2 then 4 else 0)=fb (dU 32 rs) ((a.bZ ak 32).2:Int)) (i:Nat) (hin:i≤(a.bZ ak 32).2) (hi:i=(a.bZ ak 32).2∨((a.bI used).eF gone i).1.f≠none) :
  ∃ b' l',(CS.rd b).cF (if gone then 3 else 2) rs l0=(.rd b',l')∧QL ((a.bI used).eF gone i).1 b'∧(((a.bI used).eF gone i).1.f=none→l'=((a.bI used).eF gone i).2.1):=by
 obtain⟨b1,e1,h1⟩:=h.zW ak 32 (dU 32 rs) 0 _ hrs
 obtain⟨b',nm',l',e,hq,hv⟩:=QL.rounds (a:=a.bI used) h1 gone i _ hin hi
 have ec:((b.named ak).go 7 32).2.1=(a.bZ ak 32).2:=(congrArg Prod.fst (h.go ak 7 32 (by decide)).2).symm
 have hle:(a.bZ ak 32).2≤32:=Q.fU a ak 32
 refine⟨b',l',?_,hq,hv⟩
 unfold CS.cF
 dsimp only
 rw[ec,Nat.min_eq_left hle,e1]
 dsimp only
 rw[e]
theorem QL.Dr {a b:Q} (h:QL a b) (nm:ByteArray) (rs:List (Nat→Nat)) (v n:Nat) (hn:a.f=none→n=fb rs (a.cE nm 4).2):∃ b',(CS.rd b).bL nm rs v=(.rd b',(a.cE nm 4).2)∧QL ((a.cE nm 4).1.ah n) b':=by
 obtain⟨h1,h2⟩:=h.go nm 4 0 (by decide)
 have e:(a.cE nm 4).2=((b.named nm).go 4 0).2.1:=congrArg Prod.fst h2
 refine⟨((b.named nm).go 4 0).1.ah (fb rs ((b.named nm).go 4 0).2.1),by rw[e];rfl,?_⟩
 by_cases hf:a.f=none
 ·exact h1.ah (fun _=>by rw[hn hf,e])
 ·refine h1.ah (fun hx=>?_)
  have e2:(a.aj nm).go 4 0=(a,0,[]):=by
   have:a.aj nm=a:=by unfold Q.aj;rw[if_neg hf]
   rw[this,Q.go_given hf 4 0 (by decide)]
  have e3:(a.cE nm 4).1=a:=congrArg Prod.fst e2
  exact absurd (show a.f=none by rw[← e3];exact hx) hf
theorem QL.id {a b:Q} (h:QL a b) (v:Nat × Nat):∃ b',(CS.rd b).ky v=(.rd b',a.gid.2)∧QL a.gid.1 b':=by
 obtain⟨b1,e1,h1⟩:=h.u32 cV [] v.1 0 rfl
 rw[Q.aO] at h1
 obtain⟨b2,e2,h2⟩:=h1.u32 ep [] v.2 0 rfl
 rw[Q.aO] at h2
 refine⟨b2,?_,h2⟩
 unfold CS.ky
 rw[e1]
 dsimp only
 rw[e2]
 rfl
theorem QL.code {a b:Q} (h:QL a b) (v:Nat):∃ b',(CS.rd b).qg v=(.rd b',a.pL.2)∧QL a.pL.1 b':=by
 obtain⟨b1,e1,h1⟩:=h.u8 fF [bC 0 10 5] v (if 10<(a.cE fF 1).2 then 5 else 0) (by
  generalize (a.cE fF 1).2=k
  simp only[fb,bC]
  by_cases hk:10<k <;> simp[hk])
 exact⟨b1,e1,h1⟩
theorem Q.qe (q:Q) (n m:Nat):(q.ah n).ah m=q.ah (if n=0 then m else n):=by
 by_cases hn:n=0
 ·subst hn
  rw[Q.aO,if_pos rfl]
 ·rw[if_neg hn]
  by_cases hf:q.f=none
  ·have hne:(q.ah n).f≠none:=by unfold Q.ah;rw[if_neg (by simp[hn,hf])];simp
   generalize q.ah n=r at hne ⊢
   unfold Q.ah
   rw[if_pos (.inr hne)]
  ·have e:∀ k,q.ah k=q:=fun k=>by unfold Q.ah;rw[if_pos (.inr hf)]
   rw[e,e]
theorem Q.eh {q:Q} {n:Nat} (h:(q.ah n).f=none):q.f=none∧n=0:=by
 unfold Q.ah at h
 split at h
 ·rename_i hx
  exact⟨h,hx.resolve_right (fun hy=>hy h)⟩
 ·cases h
theorem Q.jS {q:Q} {nm:ByteArray} {k:Int} (hk:k≠10) (h:(q.cE nm k).1.f=none):q.f=none:=by
 by_cases hf:q.f=none
 ·exact hf
 ·have e1:q.aj nm=q:=by unfold Q.aj;rw[if_neg hf]
  have e2:(q.cE nm k).1=q:=by
   show((q.aj nm).go k 0).1=q
   rw[e1,Q.go_given hf k 0 hk]
  rw[e2] at h
  exact h
theorem Q.gE {q:Q} {nm:ByteArray} {u:Bool} (h:(q.jb nm u).1.f=none):q.f=none:=Q.jS (by decide) (Q.eh h).1
theorem QL.AO {a b:Q} (h:QL a b) (nm:ByteArray) (u:Bool) (m gp v:Nat) (hl:a.f=none→(if (if u=false∧(a.cE nm 4).2≠0 then 4 else 0)=0 then m else (if u=false∧(a.cE nm 4).2≠0 then 4 else 0))=bC 0 gp 4 (a.cE nm 4).2):∃ b',(CS.rd b).bL nm [bC 0 gp 4] v=(.rd b',(a.jb nm u).2)∧QL ((a.jb nm u).1.ah m) b':=by
 obtain⟨b1,e1,h1⟩:=h.Dr nm [bC 0 gp 4] v _ (fun hf=>(hl hf).trans (by simp only[fb];split <;> simp_all))
 rw[← Q.qe] at h1
 exact⟨b1,e1,h1⟩
theorem QL.only {a b:Q} (h:QL a b) (nm:ByteArray) (u:Bool) (gp v:Nat) (hl:a.f=none→gp=if u then 4294967295 else 0):∃ b',(CS.rd b).bL nm [bC 0 gp 4] v=(.rd b',(a.jb nm u).2)∧QL (a.jb nm u).1 b':=by
 have hv:(a.cE nm 4).2<4294967296:=Q.go_lt _ 4 0
 obtain⟨b1,e1,h1⟩:=h.AO nm u 0 gp v (fun hf=>by
  rw[hl hf]
  generalize (a.cE nm 4).2=k at hv ⊢
  unfold bC
  cases u
  ·by_cases hk:k=0 <;> simp[hk]
  ·simp
   omega)
 rw[Q.aO] at h1
 exact⟨b1,e1,h1⟩
theorem Q.go_fz {q:Q} {k m:Int} (hk:k≠10) (h:(q.go k m).1.f=none):q.f=none:=by
 by_cases hf:q.f=none
 ·exact hf
 ·rw[Q.go_given hf k m hk] at h
  exact h
theorem Q.oC {q:Q} {nm:ByteArray} {lo m:Int} (h:(q.many nm lo m).1.f=none):q.f=none:=by
 have:=Q.go_fz (by decide) (Q.eh h).1
 rw[Q.gN] at this
 exact this
theorem Q.zO {q:Q} {nm:ByteArray} {m:Int} (h:(q.bZ nm m).1.f=none):q.f=none:=by
 have:=Q.go_fz (q:=q.aj nm) (k:=7) (m:=m) (by decide) h
 rw[Q.gN] at this
 exact this
theorem Q.wQ {q:Q} (h:q.pL.1.f=none):q.f=none:=Q.jS (by decide) (Q.eh h).1
theorem QL.zN {a b:Q} (h:QL a b) (gone:Bool) (last:Nat) (l0:List cj) (i:Nat) (hin:i≤(a.bZ ak 32).2) (hi:i=(a.bZ ak 32).2∨((a.bI false).eF gone i).1.f≠none) :
  ∃ b' l',(CS.rd b).cF last [kT 0 0 4] l0=(.rd b',l')∧QL ((a.bI false).eF gone i).1 b'∧(((a.bI false).eF gone i).1.f=none→l'=((a.bI false).eF gone i).2.1):=by
 have hle:(a.bZ ak 32).2≤32:=Q.fU a ak 32
 obtain⟨b1,e1,h1⟩:=h.zW ak 32 (dU 32 [kT 0 0 4]) 0 (if false=false∧0<(a.bZ ak 32).2 then 4 else 0) (fun _=>by
  rw[yz]
  generalize (a.bZ ak 32).2=n at hle ⊢
  rw[if_neg (show ¬ 32<n by omega)]
  by_cases hn:0<n
  ·rw[if_pos ⟨rfl,hn⟩,if_pos (by omega)]
  ·rw[if_neg (fun h=>hn h.2),if_neg (by omega)])
 have ec:((b.named ak).go 7 32).2.1=(a.bZ ak 32).2:=(congrArg Prod.fst (h.go ak 7 32 (by decide)).2).symm
 have eg:(a.bZ ak 32).1.ah (if false=false∧0<(a.bZ ak 32).2 then 4 else 0)=a.bI false:=rfl
 have e0:(CS.rd b).cF last [kT 0 0 4] l0=((fC (aU last) dQ (a.bZ ak 32).2 (CS.rd b1,⟨#[]⟩)).1.1,(fC (aU last) dQ (a.bZ ak 32).2 (CS.rd b1,⟨#[]⟩)).2):=by
  unfold CS.cF
  dsimp only
  rw[ec,Nat.min_eq_left hle,e1]
 rw[e0]
 by_cases hn:0<(a.bZ ak 32).2
 ·have hf:(a.bI false).f≠none:=by
   intro hx
   have:=(Q.eh (eg ▸ hx)).2
   rw[if_pos ⟨rfl,hn⟩] at this
   cases this
  have hf1:b1.f≠none:=by rw[← h1.f,eg];exact hf
  obtain⟨c',nm',l',e2,ha,hc⟩:=tq last b1 ⟨#[]⟩ hf1 (a.bZ ak 32).2
  have hs:=nU (a.bI false) gone 0 hf i
  rw[Nat.zero_add] at hs
  have hs1:((a.bI false).eF gone i).1.f=(a.bI false).f:=hs.1
  have hs2:((a.bI false).eF gone i).1.all=(a.bI false).all:=hs.2
  rw[e2]
  exact⟨c',l',rfl,⟨by rw[hs2,ha,← h1.all,eg],by rw[hs1,hc,← h1.f,eg],fun hx=>absurd (hs1.symm.trans hx) hf⟩,fun hx=>absurd (hs1.symm.trans hx) hf⟩
 ·have hz:(a.bZ ak 32).2=0:=by omega
  have hi0:i=0:=by omega
  subst hi0
  rw[hz]
  exact⟨b1,[],rfl,eg ▸ h1,fun _=>rfl⟩
theorem C9 {lo hi n v:Nat} (hn:n≠0) (h:bC lo hi n v=0):lo≤v∧v≤hi:=by
 unfold bC at h
 split at h
 ·exact absurd h hn
 ·omega
theorem jh {P:Nat→Prop} (h1:P 1) (h2:P 2) (h3:P 3) (h4:P 4) (h5:P 5) (h6:P 6) (h7:P 7) (n:Nat) (hl:1≤n) (hh:n≤7):P n:=by
 rcases(by omega:n=1∨n=2∨n=3∨n=4∨n=5∨n=6∨n=7) with rfl|rfl|rfl|rfl|rfl|rfl|rfl <;> assumption
theorem pD (op:Nat) (h1:1≤op) (h7:op≤7):(aN op).1=(if (us op).1 then 4294967295 else 0)∧(aN op).2.2.1=(if (us op).2.2.1 then 4294967295 else 0)∧(aN op).2.2.2.1=(if (us op).2.2.1 then 4294967295 else 0):=by
 revert op
 exact fun op h1 h7=>jh (P:=fun op=>(aN op).1=(if (us op).1 then 4294967295 else 0)∧(aN op).2.2.1=(if (us op).2.2.1 then 4294967295 else 0)∧(aN op).2.2.2.1=(if (us op).2.2.1 then 4294967295 else 0)) (by decide) (by decide) (by decide) (by decide) (by decide) (by decide) (by decide) op h1 h7
theorem xk (op ve:Nat) (hv:ve<4294967296) (h1:1≤op) (h7:op≤7):(if (if (us op).2.1=false∧ve≠0 then 4 else 0)=0 then (if op=6∧1<ve then 4 else 0) else (if (us op).2.1=false∧ve≠0 then 4 else 0))=bC 0 (aN op).2.1 4 ve:=by
 have key:∀ (u:Bool) (gp:Nat) (six:Bool),(us op).2.1=u→(aN op).2.1=gp→decide (op=6)=six→(u=true→gp=if six then 1 else 4294967295)→(u=false→gp=0∧six=false)→(if (if (us op).2.1=false∧ve≠0 then 4 else 0)=0 then (if op=6∧1<ve then 4 else 0) else (if (us op).2.1=false∧ve≠0 then 4 else 0))=bC 0 (aN op).2.1 4 ve:=by
  intro u gp six eu el es ht hf
  rw[eu,el]
  unfold bC
  cases u
  ·obtain⟨rfl,rfl⟩:=hf rfl
   have h6:¬ op=6:=of_decide_eq_false es
   by_cases hz:ve=0
   ·subst hz
    simp
   ·have hp:0<ve:=by omega
    simp[hz,hp]
  ·have hl:=ht rfl
   rw[if_neg (show ¬ (true=false∧ve≠0) from fun h=>by cases h.1),if_pos rfl]
   cases six
   ·have h6:¬ op=6:=of_decide_eq_false es
    rw[if_neg (fun h=>h6 h.1),hl,if_neg (by simp;omega)]
   ·have h6:op=6:=of_decide_eq_true es
    rw[hl]
    by_cases hz:1<ve
    ·rw[if_pos ⟨h6,hz⟩,if_pos (.inr hz)]
    ·rw[if_neg (fun h=>hz h.2),if_neg (by simp;omega)]
 refine jh (P:=fun o=>op=o→_) ?_ ?_ ?_ ?_ ?_ ?_ ?_ op h1 h7 rfl
 all_goals
  intro ho
  subst ho
 ·exact key false 0 false (by decide) (by decide) (by decide) (by decide) (by decide)
 ·exact key true 4294967295 false (by decide) (by decide) (by decide) (by decide) (by decide)
 ·exact key true 4294967295 false (by decide) (by decide) (by decide) (by decide) (by decide)
 ·exact key true 4294967295 false (by decide) (by decide) (by decide) (by decide) (by decide)
 ·exact key false 0 false (by decide) (by decide) (by decide) (by decide) (by decide)
 ·exact key true 1 true (by decide) (by decide) (by decide) (by decide) (by decide)
 ·exact key false 0 false (by decide) (by decide) (by decide) (by decide) (by decide)
theorem zH (op:Nat):((us op).2.2.2.1=true∧(aN op).2.2.2.2.1=32∧(aN op).2.2.2.2.2.2=(if decide (op=2) then 3 else 2))∨((us op).2.2.2.1=false∧(aN op).2.2.2.2.1=0):=by
 by_cases h:1≤op∧op≤7
 ·exact jh (P:=fun op=>((us op).2.2.2.1=true∧(aN op).2.2.2.2.1=32∧(aN op).2.2.2.2.2.2=(if decide (op=2) then 3 else 2))∨((us op).2.2.2.1=false∧(aN op).2.2.2.2.1=0)) (by decide) (by decide) (by decide) (by decide) (by decide) (by decide) (by decide) op h.1 h.2
 ·right
  unfold us aN
  have h1:¬ op=1:=by omega
  have h2:¬ op=2:=by omega
  have h3:¬ op=3:=by omega
  have h4:¬ op=4:=by omega
  have h5:¬ op=5:=by omega
  have h6:¬ op=6:=by omega
  have h7:¬ op=7:=by omega
  simp[h1,h2,h3,h4,h5,h6,h7]
theorem yR (op:Nat):((us op).2.2.2.2=true∧(aN op).2.2.2.2.2.1=64)∨((us op).2.2.2.2=false∧(aN op).2.2.2.2.2.1=0):=by
 by_cases h:1≤op∧op≤7
 ·exact jh (P:=fun op=>((us op).2.2.2.2=true∧(aN op).2.2.2.2.2.1=64)∨((us op).2.2.2.2=false∧(aN op).2.2.2.2.2.1=0)) (by decide) (by decide) (by decide) (by decide) (by decide) (by decide) (by decide) op h.1 h.2
 ·right
  unfold us aN
  have h1:¬ op=1:=by omega
  have h2:¬ op=2:=by omega
  have h3:¬ op=3:=by omega
  have h4:¬ op=4:=by omega
  have h5:¬ op=5:=by omega
  have h6:¬ op=6:=by omega
  have h7:¬ op=7:=by omega
  simp[h1,h2,h3,h4,h5,h6,h7]
theorem QL.request {a b:Q} (h:QL a b) (i:Nat) (hok:a.A6 i):∃ b' v',(CS.rd b).aZ gS=(.rd b',v')∧QL (a.AY i) b'∧((a.AY i).f=none→v'=a.AZ i):=by
 obtain⟨b1,e1,h1⟩:=h.id (gS.cl,gS.nu)
 obtain⟨b2,e2,h2⟩:=h1.u32 ju [] gS.ac 0 rfl
 rw[Q.aO] at h2
 have h2:QL a.r2.1 b2:=h2
 obtain⟨b3,e3,h3⟩:=h2.u8 wL [bC 1 7 5] gS.op (bC 1 7 5 a.r3.2) (by show bC 1 7 5 a.r3.2=fb [bC 1 7 5] a.r3.2;simp only[fb];split <;> simp_all)
 have h3:QL a.Db b3:=h3
 have hop:a.Db.f=none→1≤a.r3.2∧a.r3.2≤7:=fun hf=>C9 (by decide) (Q.eh hf).2
 obtain⟨b4,e4,h4⟩:=h3.only dc (us a.r3.2).1 (aN a.r3.2).1 gS.re (fun hf=>(pD _ (hop hf).1 (hop hf).2).1)
 have h4:QL a.r4.1 b4:=h4
 obtain⟨b5,e5,h5⟩:=h4.AO cg (us a.r3.2).2.1 (if a.r3.2=6∧1<a.r5.2 then 4 else 0) (aN a.r3.2).2.1 gS.ve (fun hf=>by
  have hg:=hop (Q.gE hf)
  exact xk a.r3.2 (a.r4.1.cE cg 4).2 (Q.go_lt _ 4 0) hg.1 hg.2)
 have h5:QL a.Dm b5:=h5
 have hop5:a.Dm.f=none→1≤a.r3.2∧a.r3.2≤7:=fun hf=>hop (Q.gE (Q.gE (Q.eh hf).1))
 obtain⟨b6,e6,h6⟩:=h5.only gF (us a.r3.2).2.2.1 (aN a.r3.2).2.2.1 gS.wa (fun hf=>(pD _ (hop5 hf).1 (hop5 hf).2).2.1)
 have h6:QL a.r6.1 b6:=h6
 obtain⟨b7,e7,h7⟩:=h6.only ig (us a.r3.2).2.2.1 (aN a.r3.2).2.2.2.1 gS.ow (fun hf=>(pD _ (hop5 (Q.gE hf)).1 (hop5 (Q.gE hf)).2).2.2)
 have h7:QL a.r7.1 b7:=h7
 obtain⟨b8,l8,e8,h8,hv8⟩:∃ b8 l8,(CS.rd b7).cF (aN a.r3.2).2.2.2.2.2.2 [kT 0 (aN a.r3.2).2.2.2.2.1 4] gS.fs=(.rd b8,l8)∧QL (a.r8 i).1 b8∧((a.r8 i).1.f=none→l8=(a.r8 i).2.1):=by
  unfold Q.A6 at hok
  unfold Q.r8 at hok ⊢
  rcases zH a.r3.2 with ⟨eu,em,el⟩|⟨eu,em⟩
  ·rw[eu] at hok ⊢
   rw[em,el]
   have hle:(a.r7.1.bZ ak 32).2≤32:=Q.fU _ ak 32
   exact h7.fields true (decide (a.r3.2=2)) [kT 0 32 4] gS.fs (fun _=>by
    rw[yz,if_neg (fun h=>by cases h.1),if_neg (by omega),if_neg (by omega)]) i hok.1 hok.2
  ·rw[eu] at hok ⊢
   rw[em]
   exact h7.zN (decide (a.r3.2=2)) _ gS.fs i hok.1 hok.2
 have hmx:(a.r9 i).2.length≤64:=(a.r8 i).1.ei eb 0 64
 obtain⟨b9,e9,h9⟩:=h8.str eb 0 64 [fun v=>cu 0 64 v.size,Ak (aN a.r3.2).2.2.2.2.2.1] gS.rs (if (us a.r3.2).2.2.2.2=false∧0<(a.r9 i).2.length then 4 else 0) (fun _=>by
  show _=fb _ (strOf (a.r9 i).2)
  rw[Ae,fc]
  generalize (a.r9 i).2.length=n at hmx ⊢
  have hz:cu 0 64 n=0:=by
   unfold cu
   rw[if_neg (by omega),if_neg (by omega)]
  rw[hz,if_pos rfl]
  rcases yR a.r3.2 with ⟨eu,em⟩|⟨eu,em⟩
  ·rw[eu,em,if_neg (fun h=>by cases h.1),if_neg (by omega)]
  ·rw[eu,em]
   by_cases hn:0<n
   ·rw[if_pos ⟨rfl,hn⟩,if_pos (by omega)]
   ·rw[if_neg (fun h=>hn h.2),if_neg (by omega)]) (fun hl=>absurd hl (Int.not_lt.2 (Int.natCast_nonneg _)))
 have h9:QL (a.AY i) b9:=h9
 have q1:(CS.rd b).q1 gS=(.rd b1,a.gid.2):=e1
 have q2:(CS.rd b).q2 gS=(.rd b2,a.r2.2):=by unfold CS.q2;rw[q1];exact e2
 have q3:(CS.rd b).q3 gS=(.rd b3,a.r3.2):=by unfold CS.q3;rw[q2];exact e3
 have q4:(CS.rd b).q4 gS=(.rd b4,a.r4.2):=by unfold CS.q4;rw[q3];exact e4
 have q5:(CS.rd b).q5 gS=(.rd b5,a.r5.2):=by unfold CS.q5;rw[q4,q3];exact e5
 have q6:(CS.rd b).q6 gS=(.rd b6,a.r6.2):=by unfold CS.q6;rw[q5,q3];exact e6
 have q7:(CS.rd b).q7 gS=(.rd b7,a.r7.2):=by unfold CS.q7;rw[q6,q3];exact e7
 have q8:(CS.rd b).q8 gS=(.rd b8,l8):=by unfold CS.q8;rw[q7,q3];exact e8
 have q9:(CS.rd b).q9 gS=(.rd b9,strOf (a.r9 i).2):=by unfold CS.q9;rw[q8,q3];exact e9
 refine⟨b9,⟨a.gid.2.1,a.gid.2.2,a.r2.2,a.r3.2,a.r4.2,a.r5.2,a.r6.2,a.r7.2,l8,strOf (a.r9 i).2⟩,?_,h9,fun hf=>?_⟩
 ·unfold CS.aZ
  rw[q1,q2,q3,q4,q5,q6,q7,q8,q9]
 ·have hf8:(a.r8 i).1.f=none:=Q.oC (Q.eh hf).1
  rw[hv8 hf8]
  rfl
theorem QL.event {a b:Q} (h:QL a b) (i:Nat) (hok:a.v2.1.A6 i):∃ b' v',(CS.rd b).bD pd=(.rd b',v')∧QL (a.v5 i).1 b'∧((a.v5 i).1.f=none→v'=a.vev i):=by
 obtain⟨b1,e1,h1⟩:=h.u32 jA [] pd.pl 0 rfl
 rw[Q.aO] at h1
 have h1:QL a.v2.1 b1:=h1
 obtain⟨b2,v2,e2,h2,hv2⟩:=h1.request i hok
 obtain⟨b3,e3,h3⟩:=h2.code pd.co
 have h3:QL (a.v4 i).1 b3:=h3
 have hmx:(a.v5 i).2.length≤32:=(a.v4 i).1.ei fS 1 32
 obtain⟨b4,e4,h4⟩:=h3.CW fS 1 32 [fun v=>cu 1 32 v.length] pd.dg 0 (fun hf=>by
  have hlo:(1:Int)≤(((a.v5 i).2.length:Nat):Int):=Q.pE hf
  show 0=fb _ (a.v5 i).2
  have hz:cu 1 32 (a.v5 i).2.length=0:=by
   unfold cu
   rw[if_neg (by omega),if_neg (by omega)]
  simp only[fb]
  rw[if_pos hz]) (fun hl=>by
  show fb _ (a.v5 i).2=4
  have hl:(((a.v5 i).2.length:Nat):Int)<1:=hl
  have hz:cu 1 32 (a.v5 i).2.length=4:=by
   unfold cu
   rw[if_neg (by omega),if_pos hl]
  simp only[fb]
  rw[if_neg (by rw[hz];decide)]
  exact hz)
 rw[Q.aO] at h4
 have h4:QL (a.v5 i).1 b4:=h4
 have q1:(CS.rd b).e1 pd=(.rd b1,a.v2.2):=e1
 have q2:(CS.rd b).e2 pd=(.rd b2,v2):=by unfold CS.e2;rw[q1];exact e2
 have q3:(CS.rd b).e3 pd=(.rd b3,(a.v4 i).2):=by unfold CS.e3;rw[q2];exact e3
 have q4:(CS.rd b).e4 pd=(.rd b4,(a.v5 i).2):=by unfold CS.e4;rw[q3];exact e4
 refine⟨b4,⟨a.v2.2,v2,(a.v4 i).2,(a.v5 i).2⟩,?_,h4,fun hf=>?_⟩
 ·unfold CS.bD
  rw[q1,q2,q3,q4]
 ·have hf2:(a.v2.1.AY i).f=none:=Q.wQ (Q.oC hf)
  rw[hv2 hf2]
  rfl
def Q.gl {α:Type} (g:Q→Q × α) (q:Q):Nat→Q × List α
 | 0=>(q,[])
 | n+1=>((g (Q.gl g q n).1).1,(Q.gl g q n).2++[(g (Q.gl g q n).1).2])
theorem Q.A3 {α:Type} (g:Q→Q × α) (q:Q) (n:Nat):(Q.gl g q n).2.length=n:=by
 induction n with
 | zero=>rfl
 | succ n ih=>simp[Q.gl,ih]
structure gd {α:Type} (each:CS→α→CS × α) (z:α) (g:Q→Q × α):Prop where
 fl:∀ (c:CS) (v:α),c.later (each c v).1
 fg:∀ {a b:Q},QL a b→∃ b' v,each (.rd b) z=(.rd b',v)∧QL (g a).1 b'∧((g a).1.f=none→v=(g a).2)
 fz:∀ q:Q,(g q).1.f=none→q.f=none
theorem gd.loop {α:Type} {each:CS→α→CS × α} {z:α} {g:Q→Q × α} (H:gd each z g) {a b:Q} (h:QL a b):∀ n,∃ b' l',bg each z n (.rd b)=(.rd b',l')∧QL (Q.gl g a n).1 b'∧((Q.gl g a n).1.f=none→l'=(Q.gl g a n).2):=by
 intro n
 induction n with
 | zero=>exact⟨b,[],rfl,h,fun _=>rfl⟩
 | succ n ih =>
  obtain⟨b1,l1,e1,h1,v1⟩:=ih
  obtain⟨b2,v,e2,h2,v2⟩:=H.fg h1
  refine⟨b2,l1++[v],?_,h2,fun hf=>?_⟩
  ·simp only[bg]
   rw[e1]
   dsimp only
   rw[e2]
  ·have hf2:(g (Q.gl g a n).1).1.f=none:=hf
   rw[v1 (H.fz _ hf2),v2 hf2]
   rfl
theorem gd.BN {α:Type} {each:CS→α→CS × α} {z:α} {g:Q→Q × α} (H:gd each z g) (q:Q) (hq:q.f≠none):(g q).1.f=q.f∧(g q).1.all=q.all:=by
 obtain⟨b',v,e,h,_⟩:=H.fg (QL.refl q)
 have hl:=H.fl (.rd q) z
 rw[e] at hl
 obtain⟨x,hx⟩:=Option.ne_none_iff_exists'.1 hq
 exact⟨by rw[h.f,hx];exact hl.2 x hx,by rw[h.all];exact hl.1⟩
theorem gd.stuck {α:Type} {each:CS→α→CS × α} {z:α} {g:Q→Q × α} (H:gd each z g) (a:Q) (i:Nat) (hf:(Q.gl g a i).1.f≠none):∀ k,(Q.gl g a (i+k)).1.f=(Q.gl g a i).1.f∧(Q.gl g a (i+k)).1.all=(Q.gl g a i).1.all:=by
 intro k
 induction k with
 | zero=>exact⟨rfl,rfl⟩
 | succ k ih =>
  have h:=H.BN (Q.gl g a (i+k)).1 (by rw[ih.1];exact hf)
  exact⟨h.1.trans ih.1,h.2.trans ih.2⟩
theorem gd.z0 {α:Type} {each:CS→α→CS × α} {z:α} {g:Q→Q × α} (H:gd each z g) (a:Q) (i:Nat) (h:(Q.gl g a i).1.f=none):a.f=none:=by
 by_cases hf:a.f=none
 ·exact hf
 ·have:=(H.stuck a 0 hf i).1
  rw[Nat.zero_add] at this
  rw[this] at h
  exact absurd h hf
theorem gd.rounds {α:Type} {each:CS→α→CS × α} {z:α} {g:Q→Q × α} (H:gd each z g) {a b:Q} (h:QL a b) (i n:Nat) (hin:i≤n) (hi:i=n∨(Q.gl g a i).1.f≠none):∃ b' l',bg each z n (.rd b)=(.rd b',l')∧QL (Q.gl g a i).1 b'∧((Q.gl g a i).1.f=none→l'=(Q.gl g a i).2):=by
 obtain⟨b',l',e,hq,hv⟩:=H.loop h n
 rcases hi with rfl|hf
 ·exact⟨b',l',e,hq,hv⟩
 ·obtain⟨k,rfl⟩:∃ k,n=i+k:=⟨n - i,by omega⟩
  obtain⟨h1,h2⟩:=H.stuck a i hf k
  exact⟨b',l',e,⟨by rw[← h2,hq.all],by rw[← h1,hq.f],fun hx=>absurd hx hf⟩,fun hx=>absurd hx hf⟩
def Q.s2 (q:Q):Q × Nat:=(q.cE eL 4).1.cE jx 4
def Q.s3 (q:Q):Q × Nat:=q.s2.1.cE lP 4
def Q.s4 (q:Q):Q × Nat:=q.s3.1.cE jM 1
def Q.y8 (q:Q):Q × dB:=(q.s4.1.ah (if 1<q.s4.2 then 4 else 0),⟨(q.cE eL 4).2,q.s2.2,q.s3.2,((q.s4.2:Nat):Int) == 1⟩)
theorem tz (lo hi n k:Nat):fb [bC lo hi n] k=bC lo hi n k:=by
 simp only[fb]
 split <;> simp_all
theorem nT:gd (fun c v=>CS.aB c v) hJ Q.y8:=by
 refine⟨fun c v=>fG c v,fun {a b} h=>?_,fun q hf=>?_⟩
 ·obtain⟨b1,e1,h1⟩:=h.u32 eL [] hJ.au 0 rfl
  rw[Q.aO] at h1
  obtain⟨b2,e2,h2⟩:=h1.u32 jx [] hJ.ev 0 rfl
  rw[Q.aO] at h2
  have h2:QL a.s2.1 b2:=h2
  obtain⟨b3,e3,h3⟩:=h2.u32 lP [] hJ.fi 0 rfl
  rw[Q.aO] at h3
  have h3:QL a.s3.1 b3:=h3
  obtain⟨b4,e4,h4⟩:=h3.u8 jM [bC 0 1 4] hJ.gone (if 1<a.s4.2 then 4 else 0) (by
   show(if 1<a.s4.2 then 4 else 0)=fb [bC 0 1 4] a.s4.2
   rw[tz]
   generalize a.s4.2=k
   unfold bC
   by_cases hk:1<k
   ·rw[if_pos hk,if_pos (.inr hk)]
   ·rw[if_neg hk,if_neg (by omega)])
  have h4:QL a.y8.1 b4:=h4
  have q1:(CS.rd b).s1 hJ=(.rd b1,(a.cE eL 4).2):=e1
  have q2:(CS.rd b).s2 hJ=(.rd b2,a.s2.2):=by unfold CS.s2;rw[q1];exact e2
  have q3:(CS.rd b).s3 hJ=(.rd b3,a.s3.2):=by unfold CS.s3;rw[q2];exact e3
  have q4:(CS.rd b).s4 hJ=(.rd b4,a.s4.2):=by unfold CS.s4;rw[q3];exact e4
  refine⟨b4,a.y8.2,?_,h4,fun _=>rfl⟩
  show CS.aB (.rd b) hJ=_
  unfold CS.aB
  rw[q1,q2,q3,q4]
  rfl
 ·exact Q.jS (by decide) (Q.jS (by decide) (Q.jS (by decide) (Q.jS (by decide) (Q.eh hf).1)))
def Q.yQ (q:Q):Q × List Nat:=q.many aW 1 32
theorem QL.hash {a b:Q} (h:QL a b) (nm:ByteArray) (v:List Nat):∃ b',(CS.rd b).bA nm v=(.rd b',(a.many nm 1 32).2)∧QL (a.many nm 1 32).1 b':=by
 have hmx:(a.many nm 1 32).2.length≤32:=a.ei nm 1 32
 obtain⟨b4,e4,h4⟩:=h.CW nm 1 32 [fun v=>cu 1 32 v.length] v 0 (fun hf=>by
  have hlo:=Q.pE hf
  have hz:cu 1 32 (a.many nm 1 32).2.length=0:=by
   unfold cu
   rw[if_neg (by omega),if_neg (by omega)]
  simp only[fb]
  rw[if_pos hz]) (fun hl=>by
  have hz:cu 1 32 (a.many nm 1 32).2.length=4:=by
   unfold cu
   rw[if_neg (by omega),if_pos hl]
  simp only[fb]
  rw[if_neg (by rw[hz];decide)]
  exact hz)
 rw[Q.aO] at h4
 exact⟨b4,e4,h4⟩
theorem tC:gd (fun c v=>CS.bA c aW v) [] Q.yQ:=by
 refine⟨fun c v=>eK c aW v,fun {a b} h=>?_,fun q hf=>Q.oC hf⟩
 obtain⟨b1,e1,h1⟩:=h.hash aW []
 exact⟨b1,_,e1,h1,fun _=>rfl⟩
def Q.a2 (q:Q):Q × Nat:=q.gid.1.pL
def Q.a3 (q:Q):Q × Nat:=q.a2.1.cE dc 4
def Q.a4 (q:Q):Q × Nat:=q.a3.1.cE cg 4
def Q.a5 (q:Q) (i:Nat):Q × List cj × ByteArray:=(q.a4.1.bI true).eF false i
def Q.a6 (q:Q) (i:Nat):Q × Nat:=(q.a5 i).1.bZ aK 64
def Q.a7 (q:Q) (i j:Nat):Q × List dB:=Q.gl Q.y8 (q.a6 i).1 j
def Q.gan (q:Q) (i j:Nat):gr:=⟨q.gid.2.1,q.gid.2.2,q.a2.2,q.a3.2,q.a4.2,(q.a5 i).2.1,(q.a7 i j).2⟩
def Q.Dd (q:Q) (i j:Nat):Prop:=(i≤(q.a4.1.bZ ak 32).2∧(i=(q.a4.1.bZ ak 32).2∨(q.a5 i).1.f≠none))∧j≤(q.a6 i).2∧(j=(q.a6 i).2∨(q.a7 i j).1.f≠none)
theorem pf (n m:Nat) (h:n≤m):fb (dU (m:Nat) []) ((n:Nat):Int)=0:=by
 have hz:kT 0 (m:Nat) 2 ((n:Nat):Int)=0:=by
  unfold kT
  rw[if_neg (by omega)]
 unfold dU
 simp only[fb]
 rw[if_pos hz]
theorem QL.answer {a b:Q} (h:QL a b) (i j:Nat) (hok:a.Dd i j):∃ b' v',(CS.rd b).bp nD=(.rd b',v')∧QL (a.a7 i j).1 b'∧((a.a7 i j).1.f=none→v'=a.gan i j):=by
 obtain⟨b1,e1,h1⟩:=h.id (nD.cl,nD.nu)
 obtain⟨b2,e2,h2⟩:=h1.code nD.co
 have h2:QL a.a2.1 b2:=h2
 obtain⟨b3,e3,h3⟩:=h2.u32 dc [] nD.re 0 rfl
 rw[Q.aO] at h3
 have h3:QL a.a3.1 b3:=h3
 obtain⟨b4,e4,h4⟩:=h3.u32 cg [] nD.ve 0 rfl
 rw[Q.aO] at h4
 have h4:QL a.a4.1 b4:=h4
 obtain⟨b5,l5,e5,h5,hv5⟩:=h4.fields true false [] nD.fs (fun _=>by
  have hle:(a.a4.1.bZ ak 32).2≤32:=Q.fU _ ak 32
  rw[if_neg (fun h=>by cases h.1)]
  exact(pf _ 32 hle).symm) i hok.1.1 hok.1.2
 have h5:QL (a.a5 i).1 b5:=h5
 have hle:(a.a6 i).2≤64:=Q.fU _ aK 64
 obtain⟨b6,e6,h6⟩:=h5.zW aK 64 (dU 64 []) 0 0 (fun _=>(pf _ 64 hle).symm)
 rw[Q.aO] at h6
 have h6:QL (a.a6 i).1 b6:=h6
 obtain⟨b7,l7,e7,h7,hv7⟩:=nT.rounds h6 j _ hok.2.1 hok.2.2
 have h7:QL (a.a7 i j).1 b7:=h7
 have ec:((b5.named aK).go 7 64).2.1=(a.a6 i).2:=(congrArg Prod.fst (h5.go aK 7 64 (by decide)).2).symm
 have q1:(CS.rd b).a1 nD=(.rd b1,a.gid.2):=e1
 have q2:(CS.rd b).a2 nD=(.rd b2,a.a2.2):=by unfold CS.a2;rw[q1];exact e2
 have q3:(CS.rd b).a3 nD=(.rd b3,a.a3.2):=by unfold CS.a3;rw[q2];exact e3
 have q4:(CS.rd b).a4 nD=(.rd b4,a.a4.2):=by unfold CS.a4;rw[q3];exact e4
 have q5:(CS.rd b).a5 nD=(.rd b5,l5):=by unfold CS.a5;rw[q4];exact e5
 have q6:(CS.rd b).a6 nD=(.rd b7,l7):=by
  unfold CS.a6
  rw[q5]
  unfold CS.jo
  dsimp only
  rw[ec,Nat.min_eq_left hle,e6]
  exact e7
 refine⟨b7,⟨a.gid.2.1,a.gid.2.2,a.a2.2,a.a3.2,a.a4.2,l5,l7⟩,?_,h7,fun hf=>?_⟩
 ·unfold CS.bp
  rw[q1,q2,q3,q4,q5,q6]
 ·have hf6:(a.a6 i).1.f=none:=nT.z0 _ j hf
  rw[hv5 (Q.zO hf6),hv7 hf]
  rfl
def Q.p1 (q:Q):Q × Nat:=q.bZ bQ 4096
def Q.p2 (q:Q) (j:Nat):Q × List (List Nat):=Q.gl Q.yQ q.p1.1 j
def Q.B7 (q:Q) (j:Nat):Prop:=j≤q.p1.2∧(j=q.p1.2∨(q.p2 j).1.f≠none)
theorem QL.proof {a b:Q} (h:QL a b) (j:Nat) (hok:a.B7 j):∃ b' v',(CS.rd b).fD []=(.rd b',v')∧QL (a.p2 j).1 b'∧((a.p2 j).1.f=none→v'=(a.p2 j).2):=by
 have hle:a.p1.2≤4096:=Q.fU _ bQ 4096
 obtain⟨b6,e6,h6⟩:=h.zW bQ (4096:Nat) (dU (4096:Nat) []) 0 0 (fun _=>(pf _ 4096 hle).symm)
 rw[Q.aO] at h6
 have h6:QL a.p1.1 b6:=h6
 obtain⟨b7,l7,e7,h7,hv7⟩:=tC.rounds h6 j _ hok.1 hok.2
 have ec:((b.named bQ).go 7 (4096:Nat)).2.1=a.p1.2:=(congrArg Prod.fst (h.go bQ 7 (4096:Nat) (by decide)).2).symm
 refine⟨b7,l7,?_,h7,hv7⟩
 unfold CS.fD
 dsimp only
 rw[ec,Nat.min_eq_left hle,e6]
 exact e7
theorem QL.head {a b:Q} (h:QL a b):∃ b',(CS.rd b).dE (0,[])=(.rd b',a.cN.2)∧QL a.cN.1 b':=by
 obtain⟨b1,e1,h1⟩:=h.u32 cB [] 0 0 rfl
 rw[Q.aO] at h1
 obtain⟨b2,e2,h2⟩:=h1.hash dp []
 refine⟨b2,?_,h2⟩
 unfold CS.dE
 rw[e1]
 dsimp only
 rw[e2]
 rfl
theorem QL.signed {a b:Q} (h:QL a b):∃ b',(CS.rd b).cR ((0,[]),0,[])=(.rd b',a.oM.2)∧QL a.oM.1 b':=by
 obtain⟨b1,e1,h1⟩:=h.head
 obtain⟨b2,e2,h2⟩:=h1.u32 fQ [] 0 0 rfl
 rw[Q.aO] at h2
 have hmx:((a.cN.1.cE fQ 4).1.many bW 0 32768).2.length≤32768:=Q.ei _ bW 0 32768
 obtain⟨b3,e3,h3⟩:=h2.CW bW 0 32768 [fun v=>cu 0 32768 v.length] [] 0 (fun _=>by
  have hz:cu 0 32768 ((a.cN.1.cE fQ 4).1.many bW 0 32768).2.length=0:=by
   unfold cu
   rw[if_neg (by omega),if_neg (by omega)]
  simp only[fb]
  rw[if_pos hz]) (fun hl=>absurd hl (Int.not_lt.2 (Int.natCast_nonneg _)))
 rw[Q.aO] at h3
 refine⟨b3,?_,h3⟩
 unfold CS.cR
 rw[e1]
 dsimp only
 rw[e2]
 dsimp only
 rw[e3]
 rfl
def Q.m1 (q:Q):Q × Nat:=q.cE ay 1
def Q.Ce (q:Q):Q:=q.m1.1.ah (bC 1 7 5 q.m1.2)
def Q.mb (q:Q):Q × Nat:=((q.gid.1.cE eW 1).1.ah (bC 1 15 4 (q.gid.1.cE eW 1).2),(q.gid.1.cE eW 1).2)
def Q.gM (q:Q) (k i j:Nat):Q × cd:=
 if k=1 then (q.AY i,{ kn with kd:=1,rq:=q.AZ i })
 else if k=2 then (q.gid.1,{ kn with kd:=2,icl:=q.gid.2.1,inu:=q.gid.2.2 })
 else if k=3 then ((q.a7 i j).1,{ kn with kd:=3,an:=q.gan i j })
 else if k=4 then (q.mb.1,{ kn with kd:=4,icl:=q.gid.2.1,inu:=q.gid.2.2,co:=q.mb.2 })
 else if k=5 then ((q.v5 i).1,{ kn with kd:=5,ev:=q.vev i })
 else if k=6 then ((q.cE ck 4).1,{ kn with kd:=6,le:=(q.cE ck 4).2 })
 else (q,{ kn with kd:=k })
def Q.CB (q:Q) (i j:Nat):Q × cd:=q.Ce.gM q.m1.2 i j
def Q.mok (q:Q) (k i j:Nat):Prop:=(k=1→q.A6 i)∧(k=3→q.Dd i j)∧(k=5→q.v2.1.A6 i)
theorem QL.message {a b:Q} (h:QL a b) (i j:Nat) (hok:a.Ce.mok a.m1.2 i j):∃ b' v',(CS.rd b).cZ kn=(.rd b',v')∧QL (a.CB i j).1 b'∧((a.CB i j).1.f=none→v'=(a.CB i j).2):=by
 have hb:kn.beside=false:=by decide +kernel
 obtain⟨b1,e1,h1⟩:=h.u8 ay [bC 1 7 5,gh false] kn.kd (bC 1 7 5 a.m1.2) (by
  show bC 1 7 5 a.m1.2=fb [bC 1 7 5,gh false] a.m1.2
  simp only[fb,gh]
  split <;> simp_all)
 have h1:QL a.Ce b1:=h1
 unfold CS.cZ CS.m1
 rw[hb,e1]
 dsimp only
 have ek:(a.cE ay 1).2=a.m1.2:=rfl
 rw[ek]
 unfold Q.CB
 generalize a.m1.2=k at *
 generalize a.Ce=c at *
 obtain⟨o1,o3,o5⟩:=hok
 unfold CS.pM Q.gM
 by_cases k1:k=1
 ·rw[if_pos k1,if_pos k1]
  obtain⟨b2,v2,e2,h2,hv⟩:=h1.request i (o1 k1)
  refine⟨b2,{ kn with kd:=1,rq:=v2 },?_,h2,fun hf=>by rw[hv hf]⟩
  have e2':(CS.rd b1).aZ kn.rq=(.rd b2,v2):=e2
  rw[e2']
 rw[if_neg k1,if_neg k1]
 by_cases k2:k=2
 ·rw[if_pos k2,if_pos k2]
  obtain⟨b2,e2,h2⟩:=h1.id (kn.icl,kn.inu)
  refine⟨b2,_,?_,h2,fun hf=>rfl⟩
  rw[e2]
 rw[if_neg k2,if_neg k2]
 by_cases k3:k=3
 ·rw[if_pos k3,if_pos k3]
  obtain⟨b2,v2,e2,h2,hv⟩:=h1.answer i j (o3 k3)
  refine⟨b2,{ kn with kd:=3,an:=v2 },?_,h2,fun hf=>by rw[hv hf]⟩
  have e2':(CS.rd b1).bp kn.an=(.rd b2,v2):=e2
  rw[e2']
 rw[if_neg k3,if_neg k3]
 by_cases k4:k=4
 ·rw[if_pos k4,if_pos k4]
  obtain⟨b2,e2,h2⟩:=h1.id (kn.icl,kn.inu)
  obtain⟨b3,e3,h3⟩:=h2.u8 eW [bC 1 15 4] kn.co (bC 1 15 4 (c.gid.1.cE eW 1).2) (tz _ _ _ _).symm
  refine⟨b3,_,?_,h3,fun hf=>rfl⟩
  rw[e2]
  dsimp only
  rw[e3]
  rfl
 rw[if_neg k4,if_neg k4]
 by_cases k5:k=5
 ·rw[if_pos k5,if_pos k5]
  obtain⟨b2,v2,e2,h2,hv⟩:=h1.event i (o5 k5)
  refine⟨b2,{ kn with kd:=5,ev:=v2 },?_,h2,fun hf=>by rw[hv hf]⟩
  have e2':(CS.rd b1).bD kn.ev=(.rd b2,v2):=e2
  rw[e2']
 rw[if_neg k5,if_neg k5]
 by_cases k6:k=6
 ·rw[if_pos k6,if_pos k6]
  obtain⟨b2,e2,h2⟩:=h1.u32 ck [] kn.le 0 rfl
  rw[Q.aO] at h2
  refine⟨b2,_,?_,h2,fun hf=>rfl⟩
  rw[e2]
 rw[if_neg k6,if_neg k6]
 exact⟨b1,_,rfl,h1,fun _=>rfl⟩
theorem ly (l:List Nat) (k:Nat):∃ b,(gg l).aE k = .rd b∧QL (Q.begun l k) b:=by
 obtain⟨b,e,h⟩:=(QL.refl ⟨ByteArray.empty,l,0,0,none⟩).u8 cC [bC k k 5] k (if ((Q.mk ByteArray.empty l 0 0 none).cE cC 1).2=k then 0 else 5) (by
  rw[tz]
  generalize ((Q.mk ByteArray.empty l 0 0 none).cE cC 1).2=v
  unfold bC
  by_cases h:v=k
  ·rw[if_pos h,if_neg (by omega)]
  ·rw[if_neg h,if_pos (by omega)])
 refine⟨b,?_,h⟩
 unfold CS.aE
 exact congrArg Prod.fst e
theorem QL.fin {a b:Q} (h:QL a b):(a.aj bk).ended=(CS.rd b).rq.fin:=by
 show(a.aj bk).ended=(b.named bk).ended
 by_cases hf:a.f=none
 ·obtain rfl:=h.eq hf
  unfold Q.aj
  rw[if_pos hf]
 ·have hb:(b.named bk).f≠none:=by show b.f≠none;rw[← h.f];exact hf
  unfold Q.aj Q.ended
  rw[if_neg hf,if_neg (fun h=>hf h.1),if_neg (fun h=>hb h.1)]
  show dn a.f=dn b.f
  rw[h.f]
structure HV where
 b:List Nat
 x:Value
structure HL (w:World) (base:Nat) (v:Value) (L:List HV):Prop where
 row:w.ownsRow base 23 1 v L.length (L.map HV.x)
 el:∀ q∈L,Src w q.x q.b∧∀ g o n c,q.x = .slice (some ⟨g,o,none⟩) (n+1) c→base≤g∧g<w.heap.size∧v.ownBlock≠some g
theorem Src.Bs {w w':World} {x:Value} {l:List Nat} {S:Nat→Prop} (h:Src w x l) (hf:Fr S w w') (hS:∀ g o n c,x = .slice (some ⟨g,o,none⟩) (n+1) c→¬ S g):Src w' x l:=by
 rcases h with h|⟨g,o,c,hx,hc⟩|h
 ·exact .inl h
 ·cases l with
  | nil=>exact .inr (.inr ⟨_,c,hx,rfl⟩)
  | cons a r=>exact .inr (.inl ⟨g,o,c,hx,fun j v hv=>(hf.cell (p:=⟨g,o+j,none⟩) (ab (hc j v hv)) (hS g o _ c hx)).trans (hc j v hv)⟩)
 ·exact .inr (.inr h)
theorem HL.lx {w w':World} {base:Nat} {v:Value} {L:List HV} {S:Nat→Prop} (h:HL w base v L) (hf:Fr S w w') (hS:∀ k,S k→k<base∨w.heap.size≤k):HL w' base v L:=
 ⟨av h.row (fun k hk=>hf.block k (h.row.lt k hk).2 (fun hx=>by have:=hS k hx;have:=h.row.lt k hk;omega)),fun q hq=>by
  obtain⟨h1,h2⟩:=h.el q hq
  refine⟨h1.Bs hf (fun g o n c e hx=>by have:=hS g hx;have:=h2 g o n c e;omega),fun g o n c e=>?_⟩
  obtain⟨a,b,c'⟩:=h2 g o n c e
  exact⟨a,Nat.lt_of_lt_of_le b hf.size,c'⟩⟩
theorem HL.base {w:World} {base base':Nat} {v:Value} {L:List HV} (h:HL w base v L) (hb:base'≤base):HL w base' v L:=⟨aH h.row hb,fun q hq=>⟨(h.el q hq).1,fun g o n c e=>by
 obtain⟨a,b,c'⟩:=(h.el q hq).2 g o n c e
 exact⟨by omega,b,c'⟩⟩⟩
theorem HL.nil (w:World) (base:Nat):HL w base (.slice none 0 0) []:=⟨World.ownsRow_nil _ _ _ _,fun q hq=>by simp at hq⟩
theorem HL.form {w:World} {base:Nat} {v:Value} {L:List HV} (h:HL w base v L):∃ ao cap,v = .slice ao L.length cap:=dS h.row
theorem HL.one {w:World} {base:Nat} {v:Value} {L:List HV} (h:HL w base v L):∀ q∈L,q.x.oneCell'=true:=fun q hq=>by
 obtain⟨xo,xc,e⟩:=(h.el q hq).1.form
 rw[e]
 rfl
theorem HL.add {w:World} {base:Nat} {v:Value} {L:List HV} (h:HL w base v L) (hb:base≤w.heap.size) (q:HV) (hq:Src w q.x q.b) (hlt:∀ g o n c,q.x = .slice (some ⟨g,o,none⟩) (n+1) c→base≤g∧g<w.heap.size∧v.ownBlock≠some g) (hn:L.length≤1000000) :
  ∃ ao cap w',(Builtin.append_ #[38,38] 38 #[v,.slice (some ⟨w.heap.size,0,none⟩) 1 1]).run Tryz.prog (w.alloc (.cells #[q.x] 23)) = .ok (.slice ao (L.length+1) cap) w'∧HL w' base (.slice ao (L.length+1) cap) (L++[q])∧Fr (fun g=>v.ownBlock=some g) w w':=by
 obtain⟨i0,hi,hz0,hz1,hz2⟩:=info_parts Tryz.yA
 have hbx:=al w (.cells #[q.x] 23)
 have hsz:(w.alloc (.cells #[q.x] 23)).heap.size=w.heap.size+1:=by simp
 have hA:=h.lx hbx (fun _ h=>h.elim)
 have hone:q.x.oneCell'=true:=by
  obtain⟨xo,xc,e⟩:=hq.form
  rw[e]
  rfl
 obtain⟨v',w',hr,h2,h3,_,h5⟩:=run_append_own_at (P:=Tryz.prog) (w:=w.alloc (.cells #[q.x] 23)) base 38 38 23 i0 (.slice none 0 0) 1 24 Tryz.underlying38 hi hz0 hz1 hz2 rfl (by decide) v L.length _ hA.row ⟨w.heap.size,0,none⟩ 1 1 [q.x] rfl (fun j u hu=>by
  rw[addr_add,World.cell?_alloc_at _ _ _ _ rfl];simpa using hu) (fun u hu=>by simp at hu;subst hu;exact hone) (by simp only[maxLen];omega) (by omega) (by omega)
 obtain⟨ao,cap,rfl⟩:=dS h2
 have hf:Fr (fun g=>v.ownBlock=some g) (w.alloc (.cells #[q.x] 23)) w':=(Fr.refl _ _).grown h3 (fun g hg=>.inl hg)
 have hff:Fr (fun g=>v.ownBlock=some g) w w':=(hbx.mono (fun _ _ h=>h.elim)).trans hf (fun _ _ h=>h)
 refine⟨ao,cap,w',hr,⟨by rw[List.map_append,List.length_append];exact h2,fun p hp=>?_⟩,hff⟩
 have hp':Src w p.x p.b∧∀ g o n c,p.x = .slice (some ⟨g,o,none⟩) (n+1) c→base≤g∧g<w.heap.size∧v.ownBlock≠some g:=by
  rcases List.mem_append.1 hp with hp|hp
  ·exact h.el p hp
  ·rw[List.mem_singleton] at hp
   subst hp
   exact⟨hq,hlt⟩
 refine⟨hp'.1.Bs hff (fun g o n c e=>(hp'.2 g o n c e).2.2),fun g o n c e=>?_⟩
 obtain⟨a,b,c'⟩:=hp'.2 g o n c e
 refine⟨a,Nat.lt_of_lt_of_le b hff.size,fun hx=>?_⟩
 rcases h5 with e5|e5
 ·rw[e5] at hx
  exact c' hx
 ·rw[e5] at hx
  simp only[Option.some.injEq] at hx
  omega
def Bf (l:List Nat) (w:World) (vs:List Value):Prop:=∃ y z,vs=bu 17 ((bm l).2.aL y z).toList∧kz w y (bm l).2.rq.fs∧Src w z (bm l).2.dg∧(bm l).2.dg.length≤140737488355328
def xE (l:List Nat) (w:World) (vs:List Value):Prop:=∃ y,vs=bu 30 [.int .u32 ((bq l).2.1:Nat),y]∧Src w y (bq l).2.2∧(bq l).2.2.length≤140737488355328
def ze (l:List Nat) (w:World) (vs:List Value):Prop:=∃ y z,vs=bu 32 [.int .u32 ((aM l).2.1.1:Nat),y,.int .u32 ((aM l).2.2.1:Nat),z]∧Src w y (aM l).2.1.2∧Src w z (aM l).2.2.2∧(aM l).2.1.2.length≤140737488355328∧(aM l).2.2.2.length≤140737488355328
def sT (l:List Nat) (w:World) (vs:List Value):Prop:=∃ (L:List HV) (po:Option Addr) (pc:Nat),vs=bu 36 [.slice po L.length pc]∧L.map HV.b=(bf l).2∧∀ (j:Nat) (q:HV),L[j]?=some q→q.b.length≤140737488355328∧∃ g o,po=some ⟨g,o,none⟩∧w.cell? ⟨g,o+j,none⟩=some q.x∧Src w q.x q.b
def xf (l:List Nat) (w:World) (vs:List Value):Prop:=∃ y0 y1 y2 y3 y4,vs=bu 37 ((dt l).2.aL y0 y1 y2 y3 y4).toList∧kz w y0 (dt l).2.rq.fs∧kz w y1 (dt l).2.an.fs∧ue w y2 (dt l).2.an.hi∧kz w y3 (dt l).2.ev.rq.fs∧Src w y4 (dt l).2.ev.dg∧(dt l).2.ev.dg.length≤140737488355328
def DK (k:Nat) (l:List Nat) (w:World) (vs:List Value):Prop:=
 if k=1 then qC l w vs else if k=2 then uy l w vs else if k=3 then Bf l w vs else if k=4 then xE l w vs else if k=5 then ze l w vs else if k=6 then sT l w vs else xf l w vs
theorem fp {w w1:World} {x:Value} {l:List Nat} (h:Src w x l) (hf:Fr (fun _=>False) w w1):Src w1 x l:=h.fr hf (fun _ _ _ _ _ h=>h)
theorem xd {l:List Nat} {w:World} {va vb:List Value} (ha:we l w va) (hb:xE l w vb) :
  Calls Tryz.prog 18 #[.agg va.toArray,.agg vb.toArray] w fun e w'=>e = .returned (.bool true)∧Fr (fun _=>False) w w':=by
 obtain⟨y,rfl,hy⟩:=ha
 obtain⟨x,rfl,hx,hl⟩:=hb
 generalize (bq l).2.1=n at *
 generalize (bq l).2.2=r at *
 exact ub _ _ 0 0 none none 0 0 (.slice none 0 0) (.slice none 0 0) w (by decide) rfl rfl rfl rfl rfl rfl (tm w) (eY (of_decide_eq_true rfl) rfl (of_decide_eq_true rfl) (by decide) fK) (eY (of_decide_eq_true rfl) rfl (of_decide_eq_true rfl) (by decide) gP) (eY (of_decide_eq_true rfl) rfl (of_decide_eq_true rfl) (by decide) jc) (Au rfl rfl (by decide) (fun U hU=>uX n y x r r U (hy.aR hU).src (fp hx hU) rfl hl)) (eY (of_decide_eq_true rfl) rfl (of_decide_eq_true rfl) (by decide) jD) (fun W _=>qp W) (eY (of_decide_eq_true rfl) rfl (of_decide_eq_true rfl) (by decide) iE)
theorem u5 {l:List Nat} {w:World} {va vb:List Value} (ha:sX l w va) (hb:sT l w vb) :
  Calls Tryz.prog 18 #[.agg va.toArray,.agg vb.toArray] w fun e w'=>e = .returned (.bool true)∧Fr (fun _=>False) w w':=by
 obtain⟨po,pc,rfl,hy⟩:=ha
 obtain⟨L,xo,xc,rfl,hm,hL⟩:=hb
 have hln:L.length=(bf l).2.length:=by rw[← hm,List.length_map]
 have hP:Twins w (bf l).2.length po xo:=⟨fun j hj=>by
  have j1:(bf l).2[j]?=some ((bf l).2[j]'hj):=List.getElem?_eq_getElem hj
  have j2:L[j]?=some (L[j]'(by rw[hln];exact hj)):=List.getElem?_eq_getElem _
  generalize (bf l).2[j]'hj=p at j1
  generalize L[j]'(by rw[hln];exact hj)=q at j2
  obtain⟨hq,g2,o2,e2,c2,s2⟩:=hL j q j2
  obtain⟨g1,o1,x1,e1,c1,s1⟩:=hy.el j p j1
  have hpq:q.b=p:=by
   have h3:(L.map HV.b)[j]?=some q.b:=by rw[List.getElem?_map,j2];rfl
   rw[hm,j1] at h3
   exact(Option.some.inj h3).symm
  subst hpq
  obtain⟨a2,m2,ex2⟩:=s2.form
  obtain⟨a1,m1,rfl⟩:=s1.src.form
  rw[ex2] at c2 s2
  exact⟨g1,o1,g2,o2,a1,_,m1,a2,_,m2,e1,e2,c1,c2,fun U hU=>pZ _ _ _ _ U (s1.aR hU).src (fp s2 hU) rfl hq⟩⟩
 have hlen:=hy.len
 rw[hln]
 generalize (bf l).2.length=N at *
 exact ub _ _ N 0 po xo pc xc (.slice none 0 0) (.slice none 0 0) w hlen rfl rfl rfl rfl rfl rfl hP (eY (of_decide_eq_true rfl) rfl (of_decide_eq_true rfl) (by decide) fK) (eY (of_decide_eq_true rfl) rfl (of_decide_eq_true rfl) (by decide) gP) (eY (of_decide_eq_true rfl) rfl (of_decide_eq_true rfl) (by decide) jc) (eY (of_decide_eq_true rfl) rfl (of_decide_eq_true rfl) (by decide) jD) (eY (of_decide_eq_true rfl) rfl (of_decide_eq_true rfl) (by decide) jD) (fun W _=>qp W) (eY (of_decide_eq_true rfl) rfl (of_decide_eq_true rfl) (by decide) iE)
theorem zg (k:Nat) (h1:1≤k) (h7:k≤7) (h46:Hid (k=4∨k=6)) {l:List Nat} {w:World} {va vb:List Value} (ha:VK k l w va) (hb:DK k l w vb) :
  Calls Tryz.prog 18 #[.agg va.toArray,.agg vb.toArray] w fun e w'=>e = .returned (.bool true)∧Fr (fun _=>False) w w':=by
 rcases aa h46 with rfl|rfl
 ·exact xd (by simpa[VK] using ha) (by simpa[DK] using hb)
 ·exact u5 (by simpa[VK] using ha) (by simpa[DK] using hb)
def Q.D (q:Q) (k i j:Nat):Q:=
 if k=1 then q.AY i else if k=2 then (q.a7 i j).1 else if k=3 then (q.v5 i).1 else if k=4 then q.cN.1 else if k=5 then q.oM.1 else if k=6 then (q.p2 j).1 else (q.CB i j).1
structure Q.CL (q:Q) (k i j:Nat):Prop where
 r:k=1→q.A6 i
 a:k=2→q.Dd i j
 e:k=3→q.v2.1.A6 i
 p:k=6→q.B7 j
 m:k=7→q.Ce.mok q.m1.2 i j
def iG (k:Nat) (l:List Nat) (i j:Nat):Q:=if (Q.begun l k).f=none then (Q.begun l k).D k i j else Q.begun l k
theorem Al (k:Nat) (h1:1≤k) (h7:k≤7) (h46:Hid (k=4∨k=6)) (l:List Nat) (i j:Nat) (hok:(Q.begun l k).f=none→(Q.begun l k).CL k i j):∃ b,AI k l = .rd b∧QL (iG k l i j) b:=by
 obtain⟨b0,e0,h0⟩:=ly l k
 by_cases hf:(Q.begun l k).f=none
 ·have hk:=hok hf
  unfold iG
  rw[if_pos hf]
  generalize Q.begun l k=a at *
  rcases aa h46 with rfl|rfl
  ·obtain⟨b,e,h⟩:=h0.head
   rw[← e0] at e
   exact⟨b,congrArg Prod.fst e,h⟩
  ·obtain⟨b,v,e,h,_⟩:=h0.proof j (hk.p rfl)
   rw[← e0] at e
   exact⟨b,congrArg Prod.fst e,h⟩
 ·unfold iG
  rw[if_neg hf]
  have hl:=nE k h1 h7 l
  rw[e0] at hl
  cases hc:AI k l with
  | wr s=>rw[hc] at hl;exact hl.elim
  | rd b =>
   rw[hc] at hl
   obtain⟨x,hx⟩:=Option.ne_none_iff_exists'.1 (show b0.f≠none by rw[← h0.f];exact hf)
   exact⟨b,rfl,⟨by rw[h0.all];exact hl.1.symm,by rw[h0.f,hx];exact(hl.2 x hx).symm,fun h=>absurd h hf⟩⟩
theorem wj (k:Nat) (h1:1≤k) (h7:k≤7) (h46:Hid (k=4∨k=6)) (l:List Nat) (i j:Nat) (hok:(Q.begun l k).f=none→(Q.begun l k).CL k i j):((iG k l i j).aj bk).ended=dI k l:=by
 obtain⟨b,e,h⟩:=Al k h1 h7 h46 l i j hok
 unfold dI
 rw[e]
 exact h.fin
theorem Am {q:Q} (h:q.ok) (h0:(q.aj bk).ended.2.2=0):q.f=none:=by
 by_cases hf:q.f=none
 ·exact hf
 ·exfalso
  have hx:(q.aj bk).f≠none:=by rw[Q.gN];exact hf
  unfold Q.ended at h0
  rw[if_neg (fun h=>hx h.1),Q.gN] at h0
  obtain⟨x,hx⟩:=Option.ne_none_iff_exists'.1 hf
  rw[hx] at h0
  have h1:=(h.f x hx).2.1
  have h2:x.2.2=0:=h0
  omega
theorem wu (l:List Nat):(bq l).2=(Q.begun l 4).cN.2:=by
 obtain⟨b0,e0,h0⟩:=ly l 4
 obtain⟨b,e,_⟩:=h0.head
 rw[← e0] at e
 exact congrArg Prod.snd e
theorem vO {l:List Nat} {j:Nat} (hok:(Q.begun l 6).B7 j) (hf:((Q.begun l 6).p2 j).1.f=none):(bf l).2=((Q.begun l 6).p2 j).2:=by
 obtain⟨b0,e0,h0⟩:=ly l 6
 obtain⟨b,v,e,_,hv⟩:=h0.proof j hok
 rw[← e0] at e
 have e2:(bf l).2=v:=congrArg Prod.snd e
 rw[e2,hv hf]
theorem jN.lx {w w':World} {base:Nat} {x:Value} {l:List dB} {S:Nat→Prop} (h:jN w base x l (fun _=>False)) (hf:Fr S w w') (hS:∀ k,S k→k<base∨w.heap.size≤k):jN w' base x l (fun _=>False):=
 ⟨fun _ _ h=>h,av h.row (fun k hk=>hf.block k (h.row.lt k hk).2 (fun hx=>by have:=hS k hx;have:=h.row.lt k hk;omega)),h.ok⟩
theorem jN.base {w:World} {base base':Nat} {x:Value} {l:List dB} (h:jN w base x l (fun _=>False)) (hb:base'≤base):jN w base' x l (fun _=>False):=⟨fun _ _ h=>h,⟨h.row.1,h.row.2.imp (fun h=>h) (fun ⟨g,cap,cur,e,hg,r⟩=>⟨g,cap,cur,e,by omega,r⟩)⟩,h.ok⟩
def y5 (lo:Nat) (w0 W:World):Prop:=Fr (fun k=>k<lo∨w0.heap.size≤k) w0 W
theorem y5.step {lo:Nat} {w0 W W':World} {S:Nat→Prop} (h:y5 lo w0 W) (hf:Fr S W W') (hS:∀ k,S k→k<lo∨w0.heap.size≤k):y5 lo w0 W':=h.trans hf (fun k _ e=>hS k e)
theorem y5.trans {lo:Nat} {w0 w1 W:World} (h:y5 lo w0 w1) (k:y5 lo w1 W):y5 lo w0 W:=Fr.trans h k (fun i _ e=>by have:=Fr.size h;omega)
structure SX (w w0 W:World) (b:Nat) (T:TypeId) (R Z V:List Value) (U:TypeId) (S:List Value):Prop where
 bx:BX w W T R Z V
 bb:W.heap[b]?=some (.cells S.toArray U)
 ge:w0.heap.size≤b
 le:w.heap.size+4≤w0.heap.size
 fr8:y5 (w.heap.size+4) w0 W
section
variable {w w0 W W':World} {b:Nat} {T U:TypeId} {R Z V S:List Value}
theorem SX.b0 (h:SX w w0 W b T R Z V U S):W.heap[w.heap.size]?=some (.cells R.toArray 120):=h.bx.b0
theorem SX.n (h:SX w w0 W b T R Z V U S):R.length=7:=h.bx.n
theorem SX.fr (h:SX w w0 W b T R Z V U S):Fr (fun _=>False) w W:=h.bx.fr
theorem SX.lt (h:SX w w0 W b T R Z V U S):b<W.heap.size:=lt_of_block h.bb
theorem SX.aR (h:SX w w0 W b T R Z V U S) (hf:Fr (fun _=>False) W W'):SX w w0 W' b T R Z V U S:=
 ⟨h.bx.aR hf,(hf.block _ h.lt (fun h=>h)).trans h.bb,h.ge,h.le,h.fr8.step hf (fun _ h=>h.elim)⟩
theorem SX.cell (h:SX w w0 W b T R Z V U S) (i:Nat) (v:Value) (hv:S[i]?=some v):W.cell? ⟨b,i,none⟩=some v:=af h.bb i v hv |> fun h=>by simpa using h
theorem SX.start (h:BX w W T R Z V) (hw:y5 (w.heap.size+4) w0 W) (hl:w.heap.size+4≤w0.heap.size) (S:List Value) (U:TypeId):SX w w0 (W.alloc (.cells S.toArray U)) W.heap.size T R Z V U S:=
 ⟨h.aR (al W _),heap_alloc_new W _,Fr.size hw,hl,hw.step (al W _) (fun _ h=>h.elim)⟩
end
theorem Tryz.jg:(Tryz.prog.info? 40).map (·.size)=some 1:=by kernel_rfl
theorem pq {w:World} {x:Value} {l:List Nat} (h:Src w x l) {g o n c:Nat} (e:x = .slice (some ⟨g,o,none⟩) (n+1) c):g<w.heap.size:=by
 rcases h with ⟨h,_⟩|⟨g',o',c',hx,hc⟩|⟨a,c',h,_⟩
 ·rw[e] at h
  cases h
 ·rw[e] at hx
  simp only[Value.slice.injEq,Option.some.injEq,Addr.mk.injEq] at hx
  obtain⟨⟨rfl,rfl,_⟩,hl,_⟩:=hx
  cases l with
  | nil=>cases hl
  | cons a r=>exact ab (hc 0 _ rfl)
 ·rw[e] at h
  cases h
theorem mZ {w:World} {xo:Option Addr} {len xc:Nat} {all:List Nat} {R:List Value} {q:Q} (A:u3 w xo len xc all) (h:QS q xo len xc all R) :
  Calls Tryz.prog 64 #[.agg R.toArray] w fun e w'=>∃ R' y L j,e = .returned (.tuple #[.agg R'.toArray,.agg #[y]])∧q.B7 j∧QS (q.p2 j).1 xo len xc all R'∧HL w' w.heap.size y L∧L.map HV.b=(q.p2 j).2∧(∀ x∈L,x.b.length≤32)∧Fr (fun _=>False) w w':=by
 have HA:=ae A
 have HQ:=ae h
 obtain⟨c,hc⟩:∃ c,q.p1=c:=⟨_,rfl⟩
 have hcl:c.2≤4096:=by rw[← hc];exact Q.fU _ _ 4096
 obtain⟨cn,hcn⟩:∃ x,c.2=x:=⟨_,rfl⟩
 rw[hcn] at hcl
 have g6:q.bZ bQ 4096=c:=hc
 have HC:=ae (And.intro hc (And.intro hcn g6))
 clear hc hcn g6
 obtain⟨ha,ho,last,rfl,hla⟩:=h
 rw[gv]
 have HB0:=ae (BX.start w 40 (q.rv xo len xc last).toList [.slice none 0 0] rfl)
 unfold Q.rv at HB0 ⊢
 clear ha ho hla A
 go_enter Tryz.func64,Tryz.ntmps64
 go_wp2_with fail
 refine(B6 (aa HA) (CR _ _ _ _ _) (aa HQ) bQ 4096 (by decide)).mono ?_
 rintro e wa1 ⟨Ra1,rfl,hQa,hfa⟩
 rw[(aa HC).2.2] at hQa ⊢
 rw[(aa HC).2.1]
 obtain⟨wb1,hst,hBb,hfb⟩:=((aa HB0).aR hfa).lq hQa
 have HST:=ae hst
 have HB1b:=ae hBb
 have HQ1:=ae hQa
 clear hst hBb hfb hfa hQa HB0 HQ   
 go_upto_region 4 with (first|((with_reducible refine bS ?_);refine aA rfl 120 (.tmp 1) (.tmp 12) rfl _ _ rfl rfl (aa HST) ?_))
 clear HST
 go_loopw [6] (fun iv wr=>∃ (i:Nat) (R':List Value) (hv:Value) (L:List HV),i≤cn∧iv = .int .i64 (i:Nat)∧QS (Q.gl Q.yQ c.1 i).1 xo len xc all R'∧BX w wr 40 R' [.slice none 0 0] [hv]∧HL wr (w.heap.size+4) hv L∧L.map HV.b=(Q.gl Q.yQ c.1 i).2∧(∀ x∈L,x.b.length≤32)) (fun iv _=>cn - (intOf iv).toNat)
 case atStart=>exact⟨0,Ra1,.slice none 0 0,[],Nat.zero_le _,rfl,(aa HQ1),(aa HB1b),HL.nil _ _,rfl,fun _ h=>by cases h⟩
 case round =>
  obtain⟨i,Rr,hv,L,hi,rfl,hQ,hB,hH,hm,hb⟩:=hrel
  rename World=>wr
  clear HB1b HQ1
  obtain⟨s,hs⟩:∃ s,Q.gl Q.yQ c.1 i=s:=⟨_,rfl⟩
  rw[hs] at hQ hm
  have hw1:=CQ (n:=i) (by omega)
  have hln:L.length=i:=by
   have h1:=congrArg List.length hm
   rw[List.length_map] at h1
   rw[h1,← hs]
   exact Q.A3 _ _ _
  obtain⟨ho,hcp,rfl⟩:=dS hH.row
  have HQr:=ae hQ
  have HBr:=ae hB
  have HHr:=ae hH
  have HSi:=ae (And.intro hs (And.intro hln (And.intro hm hb)))
  clear hQ hB hH hs hln hm hb
  by_cases hlt:i<cn
  ·have hlt2:(i:Int)<(cn:Int):=by omega
   go_wp2_with (first|((with_reducible refine bG 18 ?_);refine uL rfl 120 (.tmp 1) rfl w.heap.size 0 rfl _ _ (af (aa HBr).b0) Tryz.underlying120 rfl (by rw[(aa HBr).n];exact Tryz.bw) ?_))
   refine(lv (aa HQr)).mono ?_
   rintro e w4 ⟨rfl,hf4⟩
   have HB4:=ae ((aa HBr).aR hf4)
   have HH4:=ae ((aa HHr).lx hf4 (fun _ h=>h.elim))
   clear hf4 HBr HHr
   by_cases hg:s.1.f=none
   ·rw[decide_eq_true hg]
    obtain⟨r,hr⟩:∃ r,s.1.yQ=r:=⟨_,rfl⟩
    have hr':s.1.many aW 1 32=r:=hr
    have hrl:r.2.length≤32:=by rw[← hr];exact Q.ei _ aW 1 32
    have hnx:Q.gl Q.yQ c.1 (i+1)=(r.1,s.2++[r.2]):=by rw[Q.gl,(aa HSi).1,hr]
    have HN:=ae (And.intro hnx (And.intro hr' hrl))
    clear hnx hr hr' hrl
    go_wp2_with (first|((with_reducible refine bG 24 ?_);refine wpList_load_mid rfl 120 (.tmp 1) rfl w.heap.size 0 rfl _ _ (af (aa HB4).b0) Tryz.underlying120 rfl (by rw[(aa HB4).n];exact Tryz.bw) ?_))
    refine(ug (aa HA) (aa HB4).fr (aa HQr) aW 1 32 (by decide)).mono ?_
    rintro e w5 ⟨R5,sx,sn,sc,rfl,hQ5,hs5,hn5,hf5⟩
    rw[(aa HN).2.1] at hQ5 hs5
    have hl4:=(aa HB4).lt
    have hB5:=(aa HB4).aR hf5
    have hH5:=(aa HH4).lx hf5 (fun _ h=>h.elim)
    have hlt5:=hB5.lt
    obtain⟨w7,hst7,hb7,hf7⟩:=bz (P:=Tryz.prog) (W:=w5.alloc (.cells ru.toArray 120)) (g:=w5.heap.size) (t:=120) (ty:=120) ru R5 (heap_alloc_new w5 _) (by rw[hQ5.len];rfl) (by rw[hQ5.len];exact Tryz.bw) hQ5.one
    have hf57:Fr (fun k=>k=w5.heap.size) w5 w7:=((Fr.refl _ w5).alloc _).trans hf7 (fun k _ h=>h)
    have hB7:=hB5.lx hf57 (fun k hk=>by omega)
    have hH7:=hH5.lx hf57 (fun k hk=>by omega)
    obtain⟨w8,hst8,hB8,hf8⟩:=hB7.lq hQ5
    have hH8:=hH7.lx hf8 (fun k hk=>by omega)
    have hs8:Src w8 (.slice sx sn sc) r.2:=(hs5.Bs hf57 (fun g o n c e hx=>by have:=pq hs5 e;omega)).Bs hf8 (fun g o n c e hx=>by have:=hn5 g o _ c e;omega)
    have hown:∀ k,(Value.slice ho L.length hcp).ownBlock=some k→w.heap.size+4≤k∧k<w4.heap.size:=fun k hk=>(aa HH4).row.lt k hk
    obtain⟨ao,cap,w9,hap,hH9,hf9⟩:=hH8.add (by have:=hB8.lt;omega) (HV.mk r.2 (.slice sx sn sc)) hs8 (fun g o n c e=>⟨by have:=hn5 g o _ c e;omega,pq hs8 e,fun hx=>by have:=hown g hx;have:=hn5 g o _ c e;omega⟩) (by have:=(aa HSi).2.1;omega)
    have hB9:=hB8.lx hf9 (fun k hk=>by have:=hown k hk;omega)
    have r0:=hB8.cell 0 _ rfl
    have hl6:=hB9.lt
    have R0:=hB9.cell 0 _ rfl
    have Z0:=hB9.A4 0
    have HAP:=ae hap
    have HS7:=ae hst7
    have HS8:=ae hst8
    have HR7:=ae (af hb7)
    have hl7:=hQ5.len
    have hB10:=hB9.uB 0 (.slice ao (L.length+1) cap)
    have hfz:Fr (fun k=>k=w.heap.size+1+1+1) w9 (w9.setCell ⟨w.heap.size+1+1+1,0,none⟩ (.slice ao (L.length+1) cap)):=(Fr.refl (fun k=>k=w.heap.size+1+1+1) w9).setCell (p:=⟨w.heap.size+1+1+1,0,none⟩) (.inl rfl) _
    have hm2:(L++[HV.mk r.2 (.slice sx sn sc)]).map HV.b=s.2++[r.2]:=by rw[List.map_append,(aa HSi).2.2.1];rfl
    have hb2:∀ x∈L++[HV.mk r.2 (.slice sx sn sc)],x.b.length≤32:=fun x hx=>by
     rcases List.mem_append.1 hx with hx|hx
     ·exact(aa HSi).2.2.2 x hx
     ·rw[List.mem_singleton] at hx
      rw[hx]
      exact(aa HN).2.2
    have HX9:=ae (And.intro hQ5 (And.intro hB10 (And.intro (hH9.lx hfz (fun k hk=>.inl (by omega))) (And.intro hm2 hb2))))
    clear hst7 hst8 hb7 hf57 hf7 hf8 hB5 hH5 hB7 hH7 hB8 hH8 hap hH9 hf9 hB9 hB10 hfz hm2 hb2 hQ5 hf5 hs5 hs8 hn5 hown HH4 hl4 hlt5
    go_wp2_with (first|((with_reducible refine bS ?_);refine aA rfl 120 (.tmp 7) (.tmp 26) rfl _ _ rfl rfl (aa HS7) ?_)|((with_reducible refine bG 28 ?_);refine wpList_load_mid rfl 120 (.tmp 7) rfl w5.heap.size 0 rfl _ _ (aa HR7) Tryz.underlying120 rfl (by rw[hl7];exact Tryz.bw) ?_)|((with_reducible refine bS ?_);refine aA rfl 120 (.tmp 1) (.tmp 28) rfl _ _ rfl rfl (aa HS8) ?_)|((with_reducible refine bG 33 ?_);refine zM rfl (.tmp 30) (.tmp 32) 38 38 rfl _ _ _ rfl rfl (aa HAP) ?_))
    go_roundw
    case rel=>exact⟨i+1,R5,.slice ao (L.length+1) cap,L++[HV.mk r.2 (.slice sx sn sc)],by omega,by go_num,by rw[(aa HN).1];exact(aa HX9).1,(aa HX9).2.1,(aa HX9).2.2.1,by rw[(aa HN).1];exact(aa HX9).2.2.2.1,(aa HX9).2.2.2.2⟩
    case measure=>exact Cg hlt
   ·rw[decide_eq_false hg]
    have h7:q.p2 i=s:=by
     show Q.gl Q.yQ q.p1.1 i=s
     rw[(aa HC).1,(aa HSi).1]
    have HA7:=ae h7
    clear h7
    have HHD:=HH4
    go_wp2_with fail
    refine Bx (aa HB4) (aa HQr) rfl Tryz.jg (by simp[Value.oneCell']) _ Tryz.underlying40 rfl (by simp) (by simp) (by simp) (by simp) (by decide) (by decide) (by simp) (fun _ _ dst _ _ h=>by cases dst <;> exact h) (fun t' W2 p2 p3 hE hfe=>?_)
    have HE1:=ae hE
    have HF2:=ae hfe
    clear hE hfe
    go_wp2_with fail
    exact wK (aa HE1) (aa HQr).len _ Tryz.underlying40 rfl Tryz.jg rfl p2 p3 ⟨Rr,.slice ho L.length hcp,L,i,rfl,⟨by rw[(aa HC).1,(aa HC).2.1];exact hi,.inr (by rw[aa HA7];exact hg)⟩,by rw[aa HA7];exact aa HQr,((aa HHD).lx (aa HF2) (fun k hk=>.inl (by omega))).base (by omega),by rw[aa HA7];exact(aa HSi).2.2.1,(aa HSi).2.2.2,(aa HE1).fr⟩
  ·have hic:i=cn:=by omega
   have hge:¬ (i:Int)<(cn:Int):=by omega
   have h7:q.p2 i=s:=by
    show Q.gl Q.yQ q.p1.1 i=s
    rw[(aa HC).1,(aa HSi).1]
   have HA7:=ae h7
   clear h7
   have HHD:=HHr
   go_wp2_with fail
   refine Bx (aa HBr) (aa HQr) rfl Tryz.jg (by simp[Value.oneCell']) _ Tryz.underlying40 rfl (by simp) (by simp) (by simp) (by simp) (by decide) (by decide) (by simp) (fun _ _ dst _ _ h=>by cases dst <;> exact h) (fun t' W2 p2 p3 hE hfe=>?_)
   have HE1:=ae hE
   have HF2:=ae hfe
   clear hE hfe
   go_wp2_with fail
   exact wK (aa HE1) (aa HQr).len _ Tryz.underlying40 rfl Tryz.jg rfl p2 p3 ⟨Rr,.slice ho L.length hcp,L,i,rfl,⟨by rw[(aa HC).1,(aa HC).2.1];exact hi,.inl (by rw[(aa HC).1,(aa HC).2.1];exact hic)⟩,by rw[aa HA7];exact aa HQr,((aa HHD).lx (aa HF2) (fun k hk=>.inl (by omega))).base (by omega),by rw[aa HA7];exact(aa HSi).2.2.1,(aa HSi).2.2.2,(aa HE1).fr⟩
theorem Ah {w:World} {x:Value} {l:List Nat} (h:Src w x l):x.oneCell'=true:=by
 obtain⟨xo,xc,e⟩:=h.form
 rw[e]
 rfl
theorem iz (g t:Nat):∀ (vs olds pre post:List Value) (o:Nat) (w:World),w.heap[g]?=some (.cells (pre++(olds++post)).toArray t)→olds.length=vs.length→pre.length=o→(w.setCells g o vs).heap[g]?=some (.cells (pre++(vs++post)).toArray t)
 | [],olds,pre,post,o,w,h,hl,_=>by
  obtain rfl:=List.eq_nil_of_length_eq_zero hl
  exact h
 | v::vs,[],pre,post,o,w,h,hl,_=>by cases hl
 | v::vs,a::olds,pre,post,o,w,h,hl,ho=>by
  rw[World.setCells]
  have:=iz g t vs olds (pre++[v]) post (o+1) (w.setCell ⟨g,o,none⟩ v) (by rw[iM h];subst ho;simp) (by simpa using hl) (by simp[ho])
  simpa using this
def mid (V:List Value) (o:Nat) (news:List Value):List Value:=V.take o++(news++V.drop (o+news.length))
theorem zp {P:Program} {W:World} {g t ty o:Nat} (V news:List Value) (hb:W.heap[g]?=some (.cells V.toArray t)) (hl:o+news.length≤V.length) (hi:(P.info? ty).map (·.size)=some news.length) (h1:∀ v∈news,v.oneCell'=true) :
  ∃ W8,(Instr.storeAt ty (.pointer (some ⟨g,o,none⟩)) (.agg news.toArray)).run P W = .ok () W8∧W8.heap[g]?=some (.cells (mid V o news).toArray t)∧Fr (fun k=>k=g) W W8:=by
 refine⟨W.setCells g o news,run_storeAt_mid W g o ty news.toArray (fun j hj=>?_) (by simpa using hi) (all_oneCell_toArray h1),?_,fu g news o W⟩
 ·have hj:j<news.length:=by simpa using hj
  refine⟨?_,by simp[World.frozen?,hb]⟩
  have:o+j<V.length:=by omega
  simp[World.cell?,hb,this]
 ·have e:V=V.take o++((V.drop o).take news.length++V.drop (o+news.length)):=by
   rw[← List.drop_drop,List.take_append_drop,List.take_append_drop]
  exact iz g t news ((V.drop o).take news.length) (V.take o) (V.drop (o+news.length)) o W (by rw[← e];exact hb) (by simp;omega) (by simp;omega)
structure AK (w:World) (base:Nat) (v:cd) (y0 y1 y2 y3 y4:Value):Prop where
 o0:fH w base y0 v.rq.fs (fun _=>False)
 o1:fH w base y1 v.an.fs (fun _=>False)
 o2:jN w base y2 v.an.hi (fun _=>False)
 o3:fH w base y3 v.ev.rq.fs (fun _=>False)
 o4:Src w y4 v.ev.dg
 g4:∀ g o n c,y4 = .slice (some ⟨g,o,none⟩) (n+1) c→base≤g
 l4:v.ev.dg.length≤32
theorem AK.base {w:World} {base base':Nat} {v:cd} {y0 y1 y2 y3 y4:Value} (h:AK w base v y0 y1 y2 y3 y4) (hb:base'≤base):AK w base' v y0 y1 y2 y3 y4:=⟨h.o0.base hb,h.o1.base hb,h.o2.base hb,h.o3.base hb,h.o4,fun g o n c e=>Nat.le_trans hb (h.g4 g o n c e),h.l4⟩
theorem AK.lx {w w':World} {base:Nat} {v:cd} {y0 y1 y2 y3 y4:Value} {S:Nat→Prop} (h:AK w base v y0 y1 y2 y3 y4) (hf:Fr S w w') (hS:∀ k,S k→k<base∨w.heap.size≤k):AK w' base v y0 y1 y2 y3 y4:=
 ⟨h.o0.lx hf hS,h.o1.lx hf hS,h.o2.lx hf hS,h.o3.lx hf hS,h.o4.Bs hf (fun g o n c e hx=>by have:=h.g4 g o n c e;have:=pq h.o4 e;have:=hS g hx;omega),h.g4,h.l4⟩
theorem yw (w:World) (base:Nat):fH w base (.slice none 0 0) [] (fun _=>False):=fH.nil _ _ _
theorem Dt (w:World):Src w (.slice none 0 0) []:=.inl ⟨rfl,rfl⟩
theorem AK.none (w:World) (base:Nat) (v:cd) (h0:v.rq.fs=[]) (h1:v.an.fs=[]) (h2:v.an.hi=[]) (h3:v.ev.rq.fs=[]) (h4:v.ev.dg=[]):AK w base v (.slice none 0 0) (.slice none 0 0) (.slice none 0 0) (.slice none 0 0) (.slice none 0 0):=
 ⟨by rw[h0];exact yw _ _,by rw[h1];exact yw _ _,by rw[h2];exact jN.nil _ _ _,by rw[h3];exact yw _ _,by rw[h4];exact Dt _,fun g o n c e=>by (cases e),by rw[h4];exact Nat.zero_le _⟩
theorem vB (q:Q):q.cN.2.2.length≤32:=(q.cE cB 4).1.ei dp 1 32
theorem AE {k:Nat} {l:List Nat} {W:World} {y:Value} (hk:k=4) (hS:Src W y (Q.begun l k).cN.2.2):DK k l W (bu 30 [.int .u32 ((Q.begun l k).cN.2.1:Nat),y]):=by
 subst hk
 have e:=wu l
 have hl:(Q.begun l 4).cN.2.2.length≤32:=vB _
 rw[← e] at hS hl ⊢
 show xE l W _
 exact⟨y,rfl,hS,by omega⟩
theorem xQ {k:Nat} {l:List Nat} {j base:Nat} {W:World} {y:Value} {L:List HV} (hk:k=6) (hok:(Q.begun l k).B7 j) (hf:((Q.begun l k).p2 j).1.f=none) (hH:HL W base y L) (hm:L.map HV.b=((Q.begun l k).p2 j).2) (hb:∀ x∈L,x.b.length≤32):DK k l W (bu 36 [y]):=by
 subst hk
 have e:=vO hok hf
 obtain⟨ao,cap,rfl⟩:=hH.form
 show sT l W _
 refine⟨L,ao,cap,rfl,by rw[hm,e],fun j q hq=>⟨Nat.le_trans (hb q (List.mem_of_getElem? hq)) (by decide),?_⟩⟩
 have hj:=(List.getElem?_eq_some_iff.1 hq).1
 rcases hH.row.2 with ⟨e1,e2⟩|⟨g,c,cur,e1,_⟩
 ·have:L.length=0:=e2
  omega
 ·have e3:ao=some ⟨g,0,none⟩:=by injection e1
  subst e3
  obtain rfl:cap=c:=by injection e1
  refine⟨g,0,rfl,?_,(hH.el q (List.mem_of_getElem? hq)).1⟩
  rw[Nat.zero_add,hH.row.cellAt j (by omega),List.getElem?_map,hq]
  rfl
theorem kR {k:Nat} {l:List Nat} {i j:Nat} (hf:(Q.begun l k).f=none):iG k l i j=(Q.begun l k).D k i j:=by unfold iG;rw[if_pos hf]
theorem ud {k:Nat} {l:List Nat} {i j:Nat} (hf:(Q.begun l k).f≠none):iG k l i j=Q.begun l k:=by unfold iG;rw[if_neg hf]
theorem D_4 {q:Q} {k i j:Nat} (h:k=4):q.D k i j=q.cN.1:=by subst h;rfl
theorem D_6 {q:Q} {k i j:Nat} (h:k=6):q.D k i j=(q.p2 j).1:=by subst h;rfl
theorem Bj {q:Q} {k i j:Nat} (h:k=4∨k=5):q.CL k i j:=⟨fun h=>by omega,fun h=>by omega,fun h=>by omega,fun h=>by omega,fun h=>by omega⟩
theorem Cn {q:Q} {k i j:Nat} (h:k=6) (a:q.B7 j):q.CL k i j:=⟨fun h=>by omega,fun h=>by omega,fun h=>by omega,fun _=>a,fun h=>by omega⟩
theorem yF {w':World} {xo:Option Addr} {len xc:Nat} {all:List Nat} {R:List Value} {q:Q} (hl:all.length=len) (h:QS q xo len xc all R) :
  Calls Tryz.prog 66 #[.agg R.toArray] w' fun e w''=>e = .returned (.agg #[.string (q.aj bk).ended.1,.int .i64 ((q.aj bk).ended.2.1:Nat),.int .i64 ((q.aj bk).ended.2.2:Nat)])∧Fr (fun _=>False) w' w'':=by
 obtain⟨ha,ho,last,rfl,hla⟩:=h
 rw[gv,← Q.jX (by rw[ha];exact hl)]
 exact rV q xo xc last w' ho
theorem Q.nw (l:List Nat) (k:Nat):(Q.begun l k).all=l:=by
 unfold Q.begun
 rw[Q.dj,Q.go_all,Q.dT]
theorem Q.yJ (l:List Nat) (k:Nat):(Q.begun l k).ok:=by
 unfold Q.begun
 exact Q.bH (Q.go_ok (Q.gW ⟨Nat.zero_le _,Nat.zero_le _,fun y hy=>by cases hy⟩ cC) 1 0) _ (by split <;> omega)
theorem wX {w:World} {xo:Option Addr} {len xc:Nat} {all:List Nat} (A:u3 w xo len xc all) (k:Nat) :
  Calls Tryz.prog 57 #[.slice xo len xc,.int .i64 (k:Nat)] w fun e w'=>∃ R',e = .returned (.agg R'.toArray)∧QS (Q.begun all k) xo len xc all R'∧Fr (fun _=>False) w w':=by
 obtain⟨hx,hl,hc,hb⟩:=A
 subst hl
 refine(ts all k xo xc w hx hc hb).mono ?_
 rintro e w2 ⟨l2,rfl,h1,h2⟩
 exact⟨((Q.begun all k).rv xo all.length xc l2).toList,by rw[gv,Q.jX (by rw[Q.nw])],⟨Q.nw _ _,Q.yJ _ _,l2,rfl,h1⟩,h2⟩
theorem Tryz.dZ:(Tryz.prog.info? 55).map (·.size)=some 3:=by kernel_rfl
def pU:List Value:=[.string ⟨#[]⟩,.int .i64 0,.int .i64 0]
structure GX (w W:World) (b7:Nat) (R V:List Value):Prop where
 c4:W.heap[w.heap.size]?=some (.cells cx.toArray 44)
 c5:W.heap[w.heap.size+1]?=some (.cells pU.toArray 55)
 c6:W.heap[w.heap.size+1+1]?=some (.cells V.toArray 44)
 c7:W.heap[b7]?=some (.cells R.toArray 120)
 ge:w.heap.size+3≤b7
 fr:Fr (fun _=>False) w W
 n:R.length=7
 v:V.length=72
 o:∀ v∈V,v.oneCell'=true
section
variable {w W W':World} {b7:Nat} {R V:List Value}
theorem GX.lt (h:GX w W b7 R V):b7<W.heap.size:=lt_of_block h.c7
theorem GX.lx (h:GX w W b7 R V) {S:Nat→Prop} (hf:Fr S W W') (hS:∀ k,S k→W.heap.size≤k):GX w W' b7 R V:=by
 have hl:=h.lt
 have hg:=h.ge
 exact⟨(hf.block _ (by omega) (fun h=>by have:=hS _ h;omega)).trans h.c4,(hf.block _ (by omega) (fun h=>by have:=hS _ h;omega)).trans h.c5,(hf.block _ (by omega) (fun h=>by have:=hS _ h;omega)).trans h.c6,(hf.block _ (by omega) (fun h=>by have:=hS _ h;omega)).trans h.c7,hg,h.fr.trans hf (fun k hk e=>by have:=hS k e;have:=h.fr.size;omega),h.n,h.v,h.o⟩
theorem GX.aR (h:GX w W b7 R V) (hf:Fr (fun _=>False) W W'):GX w W' b7 R V:=h.lx hf (fun _ h=>h.elim)
theorem GX.lq (h:GX w W b7 R V) {R':List Value} {q:Q} {xo:Option Addr} {len xc:Nat} {all:List Nat} (hR:QS q xo len xc all R') :
  ∃ W',(Instr.storeAt 120 (.pointer (some ⟨b7,0,none⟩)) (.agg R'.toArray)).run Tryz.prog W = .ok () W'∧GX w W' b7 R' V∧Fr (fun k=>k=b7) W W':=by
 have hl:=h.lt
 have hg:=h.ge
 obtain⟨W',h1,h2,h3⟩:=bz (P:=Tryz.prog) (ty:=120) R R' h.c7 (by rw[h.n,hR.len]) (by rw[hR.len];exact Tryz.bw) hR.one
 exact⟨W',h1,⟨(h3.block _ (by omega) (fun h=>by omega)).trans h.c4,(h3.block _ (by omega) (fun h=>by omega)).trans h.c5,(h3.block _ (by omega) (fun h=>by omega)).trans h.c6,h2,hg,h.fr.trans h3 (fun k hk e=>by omega),hR.len,h.v,h.o⟩,h3⟩
theorem GX.uB (h:GX w W b7 R cx) (T:TypeId) (o:Nat) (news:List Value) (hl:o+news.length≤72) (hi:(Tryz.prog.info? T).map (·.size)=some news.length) (h1:∀ v∈news,v.oneCell'=true) :
  ∃ W',(Instr.storeAt T (.pointer (some ⟨w.heap.size+1+1,o,none⟩)) (.agg news.toArray)).run Tryz.prog W = .ok () W'∧GX w W' b7 R (bu o news)∧Fr (fun k=>k=w.heap.size+1+1) W W':=by
 have hlt:=h.lt
 have hg:=h.ge
 obtain⟨W',e1,h2,h3⟩:=zp (P:=Tryz.prog) (ty:=T) (o:=o) cx news h.c6 (by rw[h.v];exact hl) hi h1
 exact⟨W',e1,⟨(h3.block _ (by omega) (fun h=>by omega)).trans h.c4,(h3.block _ (by omega) (fun h=>by omega)).trans h.c5,h2,(h3.block _ (by omega) (fun h=>by omega)).trans h.c7,hg,h.fr.trans h3 (fun k hk e=>by omega),h.n,cU rfl hl,fT h1⟩,h3⟩
end
theorem xg {P:Program} {fn:Func} {S:Ending→World→Prop} {p1 p2:Tmp} {t1 t2:TypeId} {tmps:Array Value} {b1 b2:Nat} {W:World} {R V:List Value} (hb1:W.heap[b1]?=some (.cells R.toArray t1)) (hb2:W.heap[b2]?=some (.cells V.toArray t2)) (h:fn.results = #[.cell p1 t1,.cell p2 t2]) (d1 d2:TypeDesc)
  (hp1:tmps.getD p1 undef = .pointer (some ⟨b1,0,none⟩)) (hp2:tmps.getD p2 undef = .pointer (some ⟨b2,0,none⟩)) (hu1:P.underlying t1=some d1) (hd1:d1.isRow=true) (hi1:(P.info? t1).map (·.size)=some R.length)
  (hu2:P.underlying t2=some d2) (hd2:d2.isRow=true) (hi2:(P.info? t2).map (·.size)=some V.length) (hS:S (.returned (.tuple #[.agg R.toArray,.agg V.toArray])) W):bodyPost P fn S .ret ⟨tmps,[]⟩ W:=by
 refine bodyPost_ret (v:=.tuple #[.agg R.toArray,.agg V.toArray]) ?_ rfl hS
 have hp1':tmps[p1]?.getD undef = .pointer (some ⟨b1,0,none⟩):=by simpa using hp1
 have hp2':tmps[p2]?.getD undef = .pointer (some ⟨b2,0,none⟩):=by simpa using hp2
 simp[results,h,hp1',hp2',asAddr,run_loadVar_mid W _ 0 t1 R d1 (af hb1) hu1 hd1 hi1,run_loadVar_mid W _ 0 t2 V d2 (af hb2) hu2 hd2 hi2]
structure GR (k:Nat) (l:List Nat) (w wx:World) (b7:Nat) (xo:Option Addr) (xc:Nat) (R V:List Value) (i j:Nat):Prop where
 ok:(Q.begun l k).f=none→(Q.begun l k).CL k i j
 q:QS (iG k l i j) xo l.length xc l R
 x:GX w wx b7 R V
 d:∀ W,Fr (fun k=>k<w.heap.size+3∨wx.heap.size≤k) wx W→(iG k l i j).f=none→DK k l W V
theorem Tryz.xR (w:World):(Instr.build 44 #[]).run Tryz.prog w = .ok (.agg cx.toArray) w:=by kernel_rfl
theorem uN {ops:Array Oper} {S:World→Prop} {op:Oper} {a:Act} (hw:Region.wanted op (yielded ops a.tmps)=true) (ho:op.op = .build 44 #[]):YieldsIf Tryz.prog ops S op (.agg cx.toArray) a:=
 .inl ⟨hw,fun w _=>by
  unfold execOp
  simp only[ho,Array.map_empty,List.map_toArray,List.map_nil,Sem.run_bind,Sem.run_pure,Result.andThen_ok,Tryz.xR]⟩
theorem x7 (k:Nat) (h1:1≤k) (h7:k≤7) (h46:Hid (k=4∨k=6)) (xo:Option Addr) (xc:Nat) (l:List Nat) (w:World) (A:u3 w xo l.length xc l) :
  Calls Tryz.prog 25 #[.int .i64 (k:Nat),.slice xo l.length xc] w fun e w'=>∃ vs:List Value,e = .returned (.tuple #[.agg vs.toArray,.agg #[.string (dI k l).1,.int .i64 ((dI k l).2.1:Nat),.int .i64 ((dI k l).2.2:Nat)]])∧vs.length=72∧(∀ v∈vs,v.oneCell'=true)∧((dI k l).2.2≠0→vs=cx)∧((dI k l).2.2=0→DK k l w' vs)∧Fr (fun _=>False) w w':=by
 have HA:=ae A
 have HK:=ae (And.intro h1 h7)
 obtain⟨a,ea⟩:∃ a,Q.begun l k=a:=⟨_,rfl⟩
 have hbg:=fun W (hf:Fr (fun _=>False) w W)=>wX (A.aR hf) k
 rw[ea] at hbg
 have HBG:=ae hbg
 have HE:=ae ea
 clear hbg ea A
 go_enter Tryz.func25,Tryz.ntmps25
 go_wp2_with fail
 refine((aa HBG) _ (aI _ _ _ _)).mono ?_
 rintro e w2 ⟨R2,rfl,hQ2,hf2⟩
 have hsz:w.heap.size+3≤w2.heap.size:=by have:=hf2.size;simpa using this
 have q4:w2.heap[w.heap.size]?=some (.cells cx.toArray 44):=(hf2.block _ (by simp <;> omega) (fun h=>h)).trans (wV w _ _ _).1
 have q5:w2.heap[w.heap.size+1]?=some (.cells pU.toArray 55):=(hf2.block _ (by simp <;> omega) (fun h=>h)).trans (wV w _ _ _).2.1
 have q6:w2.heap[w.heap.size+1+1]?=some (.cells cx.toArray 44):=(hf2.block _ (by simp <;> omega) (fun h=>h)).trans (wV w _ _ _).2.2.1
 have hf02:=(aI _ _ _ _).trans hf2 (fun _ _ h=>h)
 obtain⟨w3,hst,hbb,hf3⟩:=bz (P:=Tryz.prog) (W:=w2.alloc (.cells ru.toArray 120)) (g:=w2.heap.size) (t:=120) (ty:=120) ru R2 (heap_alloc_new w2 _) (by rw[hQ2.len];rfl) (by rw[hQ2.len];exact Tryz.bw) hQ2.one
 have hf23:Fr (fun k=>k=w2.heap.size) w2 w3:=((Fr.refl _ w2).alloc _).trans hf3 (fun k _ h=>h)
 have hX3:GX w w3 (w2.heap.size) R2 cx:=⟨(hf23.block _ (by omega) (fun h=>by omega)).trans q4,(hf23.block _ (by omega) (fun h=>by omega)).trans q5,(hf23.block _ (by omega) (fun h=>by omega)).trans q6,hbb,by omega,hf02.trans hf23 (fun k hk e=>by omega),hQ2.len,rfl,jz⟩
 have HST:=ae hst
 have HX3:=ae hX3
 have HQ2:=ae hQ2
 clear hst hbb hf3 hf23 hX3 hQ2 hf2 hf02 q4 q5 q6 hsz HBG
 go_upto_region 3 with (first|((with_reducible refine bS ?_);refine aA rfl 120 (.tmp 7) (.tmp 11) rfl _ _ rfl rfl (aa HST) ?_))
 clear HST
 go_wp2_with (first|((with_reducible refine bG 12 ?_);refine wpList_load_mid rfl 120 (.tmp 7) rfl w2.heap.size 0 rfl _ _ (af (aa HX3).c7) Tryz.underlying120 rfl (by rw[(aa HX3).n];exact Tryz.bw) ?_))
 refine(lv (aa HQ2)).mono ?_
 rintro e w4 ⟨rfl,hf4⟩
 have HX:=ae ((aa HX3).aR hf4)
 clear HX3 hf4
 go_upto_if 13 with fail
 go_cut [] from 13 to 69 (fun wx=>∃ R' V i j,GR k l w wx (w2.heap.size) xo xc R' V i j)
 case first =>
  by_cases hg:a.f=none
  ·rw[decide_eq_true hg]
   have HGd:=ae hg
   clear hg
   rcases(by omega:k=1∨k=2∨k=3∨k=4∨k=5∨k=6∨k=7) with hk|hk|hk|hk|hk|hk|hk
   ·have:=aa h46;omega
   ·have:=aa h46;omega
   ·have:=aa h46;omega
   ·have e1:((k:Int) == 1)=false:=by simp;omega
    have e2:((k:Int) == 2)=false:=by simp;omega
    have e3:((k:Int) == 3)=false:=by simp;omega
    have e4:((k:Int) == 4)=true:=by simp;omega
    have e5:((k:Int) == 5)=false:=by simp;omega
    have e6:((k:Int) == 6)=false:=by simp;omega
    have e7:((k:Int) == 7)=false:=by simp;omega
    have HKN:=ae hk
    clear hk
    go_wp2_with (first|((with_reducible refine bG 41 ?_);refine wpList_load_mid rfl 120 (.tmp 7) rfl w2.heap.size 0 rfl _ _ (af (aa HX).c7) Tryz.underlying120 rfl (by rw[(aa HX).n];exact Tryz.bw) ?_))
    refine(Aw (aa HA) (aa HX).fr (aa HQ2)).mono ?_
    rintro e wa ⟨Ra,yv,rfl,hQa,hSa,hna,hfa⟩
    have hlX:=(aa HX).lt
    have hgX:=(aa HX).ge
    obtain⟨wb,hst,hGb,hfb⟩:=((aa HX).aR hfa).lq hQa
    have eo0:=Ah hSa
    have hone:∀ v∈([.int .u32 (a.cN.2.1:Nat),yv]:List Value),v.oneCell'=true:=List.all_eq_true.1 (show List.all ([.int .u32 (a.cN.2.1:Nat),yv]:List Value) (fun v=>v.oneCell')=true by simp[Value.oneCell'];exact eo0)
    obtain⟨wc,hst2,hGc,hfc⟩:=hGb.uB 25 30 ([.int .u32 (a.cN.2.1:Nat),yv]) (show 30+2≤72 by decide) Tryz.bO hone
    have hbc:Fr (fun k=>k=(w2.heap.size)∨k=w.heap.size+1+1) wa wc:=(hfb.mono (T:=fun k=>k=(w2.heap.size)∨k=w.heap.size+1+1) (fun _ _ h=>.inl h)).trans hfc (fun _ _ h=>.inr h)
    have hd:∀ W,Fr (fun k=>k<w.heap.size+3∨wc.heap.size≤k) wc W→(iG k l 0 0).f=none→DK k l W (bu 30 ([.int .u32 (a.cN.2.1:Nat),yv])):=fun W hW hz=>by
     have hk:=aa HKN
     have hE:=aa HE
     have hG:=aa HGd
     rw[kR (by rw[hE];exact hG),D_4 hk] at hz
     have SR:∀ {y:Value} {L:List Nat},Src wa y L→(∀ g o m c,y = .slice (some ⟨g,o,none⟩) m c→w4.heap.size≤g)→Src W y L:=fun h hn=>(h.Bs hbc (fun g o n c e hx=>by have:=hn g o _ c e;omega)).Bs hW (fun g o n c e hx=>by have:=hn g o _ c e;have:=pq h e;have:=hbc.size;omega)
     subst hE
     exact AE hk (SR hSa hna)
    have hq:QS (iG k l 0 0) xo l.length xc l Ra:=by rw[kR (by rw[aa HE];exact aa HGd),aa HE,D_4 (aa HKN)];exact hQa
    have hk:=aa HKN
    have hR:∃ R' V i j,GR k l w wc (w2.heap.size) xo xc R' V i j:=⟨Ra,_,0,0,⟨fun _=>by rw[aa HE];exact Bj (.inl hk),hq,hGc,hd⟩⟩
    have HRR:=ae hR
    have HS1:=ae hst
    have HS2:=ae hst2
    clear hst hst2 hGb hGc hfb hfc hbc hd hq hR hone hlX hgX hk
    go_wp2_with (first|((with_reducible refine bS ?_);refine aA rfl 120 (.tmp 7) (.tmp 43) rfl _ _ rfl rfl (aa HS1) ?_)|((with_reducible refine bS ?_);refine aA rfl 25 (.tmp 45) (.tmp 44) rfl _ _ rfl rfl (aa HS2) ?_))
    go_meet
    case rel=>exact aa HRR
   ·have:=aa h46;omega
   ·have e1:((k:Int) == 1)=false:=by simp;omega
    have e2:((k:Int) == 2)=false:=by simp;omega
    have e3:((k:Int) == 3)=false:=by simp;omega
    have e4:((k:Int) == 4)=false:=by simp;omega
    have e5:((k:Int) == 5)=false:=by simp;omega
    have e6:((k:Int) == 6)=true:=by simp;omega
    have e7:((k:Int) == 7)=false:=by simp;omega
    have HKN:=ae hk
    clear hk
    go_wp2_with (first|((with_reducible refine bG 57 ?_);refine wpList_load_mid rfl 120 (.tmp 7) rfl w2.heap.size 0 rfl _ _ (af (aa HX).c7) Tryz.underlying120 rfl (by rw[(aa HX).n];exact Tryz.bw) ?_))
    refine(mZ ((aa HA).aR (aa HX).fr) (aa HQ2)).mono ?_
    rintro e wa ⟨Ra,yv,L,fj,rfl,hok,hQa,hHa,hmL,hbL,hfa⟩
    have hlX:=(aa HX).lt
    have hgX:=(aa HX).ge
    obtain⟨wb,hst,hGb,hfb⟩:=((aa HX).aR hfa).lq hQa
    have eo0:=cW hHa.row
    have hone:∀ v∈([yv]:List Value),v.oneCell'=true:=List.all_eq_true.1 (show List.all ([yv]:List Value) (fun v=>v.oneCell')=true by simp[Value.oneCell'];exact eo0)
    obtain⟨wc,hst2,hGc,hfc⟩:=hGb.uB 40 36 ([yv]) (show 36+1≤72 by decide) Tryz.jg hone
    have hbc:Fr (fun k=>k=(w2.heap.size)∨k=w.heap.size+1+1) wa wc:=(hfb.mono (T:=fun k=>k=(w2.heap.size)∨k=w.heap.size+1+1) (fun _ _ h=>.inl h)).trans hfc (fun _ _ h=>.inr h)
    have hd:∀ W,Fr (fun k=>k<w.heap.size+3∨wc.heap.size≤k) wc W→(iG k l 0 fj).f=none→DK k l W (bu 36 ([yv])):=fun W hW hz=>by
     have hk:=aa HKN
     have hE:=aa HE
     have hG:=aa HGd
     rw[kR (by rw[hE];exact hG),D_6 hk] at hz
     have HR:∀ {y:Value} {L:List HV},HL wa w4.heap.size y L→HL W w4.heap.size y L:=fun h=>(h.lx hbc (fun k hk=>by omega)).lx hW (fun k hk=>by omega)
     subst hE
     exact xQ hk hok hz (HR hHa) hmL hbL
    have hq:QS (iG k l 0 fj) xo l.length xc l Ra:=by rw[kR (by rw[aa HE];exact aa HGd),aa HE,D_6 (aa HKN)];exact hQa
    have hk:=aa HKN
    have hR:∃ R' V i j,GR k l w wc (w2.heap.size) xo xc R' V i j:=⟨Ra,_,0,fj,⟨fun _=>by rw[aa HE];exact Cn hk hok,hq,hGc,hd⟩⟩
    have HRR:=ae hR
    have HS1:=ae hst
    have HS2:=ae hst2
    clear hst hst2 hGb hGc hfb hfc hbc hd hq hR hone hlX hgX hk
    go_wp2_with (first|((with_reducible refine bS ?_);refine aA rfl 120 (.tmp 7) (.tmp 59) rfl _ _ rfl rfl (aa HS1) ?_)|((with_reducible refine bS ?_);refine aA rfl 40 (.tmp 61) (.tmp 60) rfl _ _ rfl rfl (aa HS2) ?_))
    go_meet
    case rel=>exact aa HRR
   ·have:=aa h46;omega
  ·rw[decide_eq_false hg]
   go_wp2_with fail
   go_meet
   case rel=>exact⟨R2,cx,0,0,⟨fun h=>absurd ((aa HE) ▸ h) hg,by rw[ud (by rw[aa HE];exact hg),aa HE];exact aa HQ2,aa HX,fun W hW hz=>by rw[ud (by rw[aa HE];exact hg),aa HE] at hz;exact absurd hz hg⟩⟩
 case rest =>
  obtain⟨R5,V,i,j,hG⟩:=hcut
  rename World=>w5
  clear HX HQ2
  have hfin:=wj k (aa HK).1 (aa HK).2 h46 l i j hG.ok
  have HX5:=ae hG.x
  have HQ5:=ae hG.q
  have hd:=hG.d
  have hze:(dI k l).2.2=0→(iG k l i j).f=none:=fun h0=>Am hG.q.2.1 (by rw[hfin];exact h0)
  have HD:=ae (fun W hW h0=>hd W hW (hze h0))
  have HFN:=ae hfin
  clear hG hd hze hfin
  go_wp2_with (first|((with_reducible refine bG 70 ?_);refine wpList_load_mid rfl 120 (.tmp 7) rfl w2.heap.size 0 rfl _ _ (af (aa HX5).c7) Tryz.underlying120 rfl (by rw[(aa HX5).n];exact Tryz.bw) ?_))
  refine(yF (aa HA).hl (aa HQ5)).mono ?_
  rintro e w6 ⟨rfl,hf6⟩
  rw[aa HFN]
  obtain⟨nm,hnm⟩:∃ nm,(dI k l).1=nm:=⟨_,rfl⟩
  obtain⟨at',hat⟩:∃ x,(dI k l).2.1=x:=⟨_,rfl⟩
  obtain⟨wy,hwy⟩:∃ x,(dI k l).2.2=x:=⟨_,rfl⟩
  rw[hnm,hat,hwy]
  have hfk:dI k l=(nm,at',wy):=by rw[← hnm,← hat,← hwy]
  have HFK:=ae hfk
  clear hnm hat hwy hfk HFN HQ5
  have hX6:=(aa HX5).aR hf6
  have hl6:=hX6.lt
  have hg6:=hX6.ge
  obtain⟨w7,hst,hb8,hf7⟩:=bz (P:=Tryz.prog) (W:=w6.alloc (.cells pU.toArray 55)) (g:=w6.heap.size) (t:=55) (ty:=55) pU [.string nm,.int .i64 (at':Nat),.int .i64 (wy:Nat)] (heap_alloc_new w6 _) rfl Tryz.dZ (by simp[Value.oneCell'])
  have hf67:Fr (fun k=>k=w6.heap.size) w6 w7:=((Fr.refl _ w6).alloc _).trans hf7 (fun k _ h=>h)
  have hX7:=hX6.lx hf67 (fun k hk=>by omega)
  have hs5:=hf6.size
  have h57:Fr (fun k=>w5.heap.size≤k) w5 w7:=(hf6.mono (T:=fun k=>w5.heap.size≤k) (fun _ _ h=>h.elim)).trans hf67 (fun k _ h=>by omega)
  have r2:w7.cell? ⟨w6.heap.size,2,none⟩=some (.int .i64 (wy:Nat)):=af hb8 2 _ rfl |> fun h=>by simpa using h
  have HST:=ae hst
  have HX7:=ae hX7
  have H57:=ae (And.intro h57 (And.intro hb8 (And.intro (lt_of_block hb8) (And.intro hl6 hg6))))
  clear hst hb8 hf7 hf67 hX6 hX7 h57 hl6 hg6 hs5 hf6 HX5
  by_cases hz:wy=0
  ·have ez:((wy:Int) != 0)=false:=by simp;omega
   have HZ:=ae hz
   clear hz
   go_upto_region 21 with (first|((with_reducible refine bS ?_);refine aA rfl 55 (.tmp 8) (.tmp 71) rfl _ _ rfl rfl (aa HST) ?_))
   have hX:=(aa HX7).aR (Fr.refl (fun _=>False) _).drew
   have hl8:=hX.lt
   have hg8:=hX.ge
   have hl6:=(aa H57).2.2.2.1
   have hb8:=((Fr.refl (fun _=>False) w7).drew.block w6.heap.size (aa H57).2.2.1 (fun h=>h)).trans (aa H57).2.1
   have hl9:=lt_of_block hb8
   obtain⟨W1,t1,c1,f1⟩:=bz (P:=Tryz.prog) (ty:=44) cx V hX.c4 (by rw[hX.v];rfl) (by rw[hX.v];exact Tryz.cG) hX.o
   have hs1:=f1.size
   obtain⟨W2,t2,c2,f2⟩:=bz (P:=Tryz.prog) (ty:=55) pU [.string nm,.int .i64 (at':Nat),.int .i64 (wy:Nat)] ((f1.block _ (by omega) (fun h=>by omega)).trans hX.c5) rfl Tryz.dZ (by simp[Value.oneCell'])
   have c1':=(f2.block w.heap.size (by omega) (fun h=>by omega)).trans c1
   have g1:=f1.mono (T:=fun k=>k=w.heap.size∨k=w.heap.size+1) (fun _ _ h=>.inl h)
   have g2:=g1.trans f2 (fun k hk e=>.inr e)
   have HSd:=ae (fun W' (hf:Fr (fun k=>k=w.heap.size∨k=w.heap.size+1) _ W')=>And.intro (af ((hf.block (w.heap.size+1+1) (by omega) (fun h=>by omega)).trans hX.c6)) (af (cs:=[.string nm,.int .i64 (at':Nat),.int .i64 (wy:Nat)]) ((hf.block w6.heap.size hl9 (fun h=>by omega)).trans hb8)))
   have HS1:=ae t1
   have HS2:=ae t2
   have HF1:=ae g1
   have HF2:=ae g2
   have HC:=ae (And.intro c1' c2)
   have HVL:=ae (And.intro hX.v hX.o)
   have hd:(dI k l).2.2=0→DK k l W2 V:=(aa HD) W2 (((aa H57).1.mono (T:=fun k=>k<w.heap.size+3∨w5.heap.size≤k) (fun _ _ h=>.inr h)).trans (((Fr.refl (fun _=>False) w7).drew.mono (T:=fun k=>k=w.heap.size∨k=w.heap.size+1) (fun _ _ h=>h.elim)).trans g2 (fun _ _ h=>h)) (fun k _ e=>.inl (by omega)))
   have HDD:=ae hd
   have HFZ:=ae (hX.fr.trans g2 (fun k hk e=>by omega))
   clear t1 t2 c1 c2 c1' f1 f2 g1 g2 hs1 hX hl8 hg8 hl6 hb8 hl9 hd
   refine wp_region_held_drew (S:=(fun W:World=>W.rangeAt (w.heap.size+1+1) 0 V∧W.rangeAt w6.heap.size 0 [.string nm,.int .i64 (at':Nat),.int .i64 (wy:Nat)])) (by kernel_rfl) ((aa HSd) _ (Fr.refl _ _)) (fun hHeld=>?_)
   refine cK (i:=0) rfl (yieldsIf_load_mid rfl 44 (.tmp 6) rfl (w.heap.size+1+1) 0 rfl _ _ (fun w h=>h.1) Tryz.underlying44 rfl (by rw[(aa HVL).1];exact Tryz.cG)) hHeld ?_
   (try simp only[Act.put,bd])
   refine cK (i:=1) rfl (yieldsIf_load_mid rfl 55 (.tmp 8) rfl w6.heap.size 0 rfl _ _ (fun w h=>h.2) Tryz.underlying55 rfl Tryz.dZ) hHeld ?_
   (try simp only[Act.put,bd])
   refine wpAnyH_ready (rs:=[2]) (by kernel_rfl) (by simp) (AllReadyH.cons rfl (fun K hK=>?_) AllReadyH.nil)
   refine fJ rfl 44 (.tmp 4) (.tmp 77) rfl _ _ (by simp[Act.eval]) (by simp[Act.eval]) (aa HS1) ?_
   (try clear hHeld)
   refine hK.out _ _ ((aa HSd) _ (aa HF1)) (fun hHeld=>?_)
   clear hK K
   (try simp only[Act.put,bd])
   refine wpAnyH_ready (rs:=[3]) (by kernel_rfl) (by simp) (AllReadyH.cons rfl (fun K hK=>?_) AllReadyH.nil)
   refine fJ rfl 55 (.tmp 5) (.tmp 78) rfl _ _ (by simp[Act.eval]) (by simp[Act.eval]) (aa HS2) ?_
   (try clear hHeld)
   refine hK.out _ _ ((aa HSd) _ (aa HF2)) (fun hHeld=>?_)
   clear hK K
   (try simp only[Act.put,bd])
   refine wpAnyH_done (by kernel_rfl) ?_ _
   clear hHeld
   go_wp2_with fail
   exact xg (aa HC).1 (aa HC).2 rfl _ _ (by simp) (by simp) Tryz.underlying44 rfl (by rw[(aa HVL).1];exact Tryz.cG) Tryz.underlying55 rfl Tryz.dZ ⟨V,by rw[aa HFK],(aa HVL).1,(aa HVL).2,fun h0=>absurd (show(dI k l).2.2=0 by rw[aa HFK];exact aa HZ) h0,aa HDD,aa HFZ⟩
  ·have ez:((wy:Int) != 0)=true:=by simp;omega
   have HZ:=ae hz
   clear hz
   go_upto_region 20 with (first|((with_reducible refine bS ?_);refine aA rfl 55 (.tmp 8) (.tmp 71) rfl _ _ rfl rfl (aa HST) ?_))
   have hX:=(aa HX7).aR (Fr.refl (fun _=>False) _).drew
   have hl8:=hX.lt
   have hg8:=hX.ge
   have hl6:=(aa H57).2.2.2.1
   have hb8:=((Fr.refl (fun _=>False) w7).drew.block w6.heap.size (aa H57).2.2.1 (fun h=>h)).trans (aa H57).2.1
   have hl9:=lt_of_block hb8
   obtain⟨W1,t1,c1,f1⟩:=bz (P:=Tryz.prog) (ty:=44) cx cx hX.c4 (rfl) (Tryz.cG) jz
   have hs1:=f1.size
   obtain⟨W2,t2,c2,f2⟩:=bz (P:=Tryz.prog) (ty:=55) pU [.string nm,.int .i64 (at':Nat),.int .i64 (wy:Nat)] ((f1.block _ (by omega) (fun h=>by omega)).trans hX.c5) rfl Tryz.dZ (by simp[Value.oneCell'])
   have c1':=(f2.block w.heap.size (by omega) (fun h=>by omega)).trans c1
   have g1:=f1.mono (T:=fun k=>k=w.heap.size∨k=w.heap.size+1) (fun _ _ h=>.inl h)
   have g2:=g1.trans f2 (fun k hk e=>.inr e)
   have HSd:=ae (fun W' (hf:Fr (fun k=>k=w.heap.size∨k=w.heap.size+1) _ W')=>And.intro (af ((hf.block (w.heap.size+1+1) (by omega) (fun h=>by omega)).trans hX.c6)) (af (cs:=[.string nm,.int .i64 (at':Nat),.int .i64 (wy:Nat)]) ((hf.block w6.heap.size hl9 (fun h=>by omega)).trans hb8)))
   have HS1:=ae t1
   have HS2:=ae t2
   have HF1:=ae g1
   have HF2:=ae g2
   have HC:=ae (And.intro c1' c2)
   have HVL:=ae (And.intro hX.v hX.o)
   have hd:(dI k l).2.2=0→DK k l W2 V:=(aa HD) W2 (((aa H57).1.mono (T:=fun k=>k<w.heap.size+3∨w5.heap.size≤k) (fun _ _ h=>.inr h)).trans (((Fr.refl (fun _=>False) w7).drew.mono (T:=fun k=>k=w.heap.size∨k=w.heap.size+1) (fun _ _ h=>h.elim)).trans g2 (fun _ _ h=>h)) (fun k _ e=>.inl (by omega)))
   have HDD:=ae hd
   have HFZ:=ae (hX.fr.trans g2 (fun k hk e=>by omega))
   clear t1 t2 c1 c2 c1' f1 f2 g1 g2 hs1 hX hl8 hg8 hl6 hb8 hl9 hd
   refine wp_region_held_drew (S:=(fun W:World=>W.rangeAt (w.heap.size+1+1) 0 V∧W.rangeAt w6.heap.size 0 [.string nm,.int .i64 (at':Nat),.int .i64 (wy:Nat)])) (by kernel_rfl) ((aa HSd) _ (Fr.refl _ _)) (fun hHeld=>?_)
   refine cK (i:=0) rfl (uN rfl rfl) hHeld ?_
   (try simp only[Act.put,bd])
   refine cK (i:=1) rfl (yieldsIf_load_mid rfl 55 (.tmp 8) rfl w6.heap.size 0 rfl _ _ (fun w h=>h.2) Tryz.underlying55 rfl Tryz.dZ) hHeld ?_
   (try simp only[Act.put,bd])
   refine wpAnyH_ready (rs:=[2]) (by kernel_rfl) (by simp) (AllReadyH.cons rfl (fun K hK=>?_) AllReadyH.nil)
   refine fJ rfl 44 (.tmp 4) (.tmp 75) rfl _ _ (by simp[Act.eval]) (by simp[Act.eval]) (aa HS1) ?_
   (try clear hHeld)
   refine hK.out _ _ ((aa HSd) _ (aa HF1)) (fun hHeld=>?_)
   clear hK K
   (try simp only[Act.put,bd])
   refine wpAnyH_ready (rs:=[3]) (by kernel_rfl) (by simp) (AllReadyH.cons rfl (fun K hK=>?_) AllReadyH.nil)
   refine fJ rfl 55 (.tmp 5) (.tmp 76) rfl _ _ (by simp[Act.eval]) (by simp[Act.eval]) (aa HS2) ?_
   (try clear hHeld)
   refine hK.out _ _ ((aa HSd) _ (aa HF2)) (fun hHeld=>?_)
   clear hK K
   (try simp only[Act.put,bd])
   refine wpAnyH_done (by kernel_rfl) ?_ _
   clear hHeld
   go_wp2_with fail
   exact xg (aa HC).1 (aa HC).2 rfl _ _ (by simp) (by simp) Tryz.underlying44 rfl (Tryz.cG) Tryz.underlying55 rfl Tryz.dZ ⟨cx,by rw[aa HFK],rfl,jz,fun _=>rfl,fun h0=>absurd (show wy=0 by rw[aa HFK] at h0;exact h0) (aa HZ),aa HFZ⟩
theorem VK.aR {k:Nat} {l:List Nat} {w w1:World} {vs:List Value} (h:VK k l w vs) (hf:Fr (fun _=>False) w w1):VK k l w1 vs:=by
 unfold VK at h ⊢
 repeat' split
 ·rw[if_pos (by assumption)] at h
  obtain⟨y,e,a⟩:=h
  exact⟨y,e,a.aR hf⟩
 ·rw[if_neg (by assumption),if_pos (by assumption)] at h
  obtain⟨y,z,e,a,b⟩:=h
  exact⟨y,z,e,a.aR hf,b.aR hf⟩
 ·rw[if_neg (by assumption),if_neg (by assumption),if_pos (by assumption)] at h
  obtain⟨y,z,e,a,b⟩:=h
  exact⟨y,z,e,a.aR hf,b.aR hf⟩
 ·rw[if_neg (by assumption),if_neg (by assumption),if_neg (by assumption),if_pos (by assumption)] at h
  obtain⟨y,e,a⟩:=h
  exact⟨y,e,a.aR hf⟩
 ·rw[if_neg (by assumption),if_neg (by assumption),if_neg (by assumption),if_neg (by assumption),if_pos (by assumption)] at h
  obtain⟨y,z,e,a,b⟩:=h
  exact⟨y,z,e,a.aR hf,b.aR hf⟩
 ·rw[if_neg (by assumption),if_neg (by assumption),if_neg (by assumption),if_neg (by assumption),if_neg (by assumption),if_pos (by assumption)] at h
  obtain⟨po,pc,e,a⟩:=h
  exact⟨po,pc,e,a.aR hf⟩
 ·rw[if_neg (by assumption),if_neg (by assumption),if_neg (by assumption),if_neg (by assumption),if_neg (by assumption),if_neg (by assumption)] at h
  obtain⟨y0,y1,y2,y3,y4,e,a⟩:=h
  exact⟨y0,y1,y2,y3,y4,e,a.aR hf⟩
theorem DK.aR {k:Nat} {l:List Nat} {w w1:World} {vs:List Value} (h:DK k l w vs) (hf:Fr (fun _=>False) w w1):DK k l w1 vs:=by
 unfold DK at h ⊢
 repeat' split
 ·rw[if_pos (by assumption)] at h
  obtain⟨y,e,a⟩:=h
  exact⟨y,e,a.aR hf⟩
 ·rw[if_neg (by assumption),if_pos (by assumption)] at h
  obtain⟨y,z,e,a,b⟩:=h
  exact⟨y,z,e,a.aR hf,b.aR hf⟩
 ·rw[if_neg (by assumption),if_neg (by assumption),if_pos (by assumption)] at h
  obtain⟨y,z,e,a,b,c⟩:=h
  exact⟨y,z,e,a.aR hf,fp b hf,c⟩
 ·rw[if_neg (by assumption),if_neg (by assumption),if_neg (by assumption),if_pos (by assumption)] at h
  obtain⟨y,e,a,c⟩:=h
  exact⟨y,e,fp a hf,c⟩
 ·rw[if_neg (by assumption),if_neg (by assumption),if_neg (by assumption),if_neg (by assumption),if_pos (by assumption)] at h
  obtain⟨y,z,e,a,b,c⟩:=h
  exact⟨y,z,e,fp a hf,fp b hf,c⟩
 ·rw[if_neg (by assumption),if_neg (by assumption),if_neg (by assumption),if_neg (by assumption),if_neg (by assumption),if_pos (by assumption)] at h
  obtain⟨L,po,pc,e,a,b⟩:=h
  refine⟨L,po,pc,e,a,fun j q hq=>?_⟩
  obtain⟨b1,g,o,b2,b3,b4⟩:=b j q hq
  exact⟨b1,g,o,b2,aq hf b3,fp b4 hf⟩
 ·rw[if_neg (by assumption),if_neg (by assumption),if_neg (by assumption),if_neg (by assumption),if_neg (by assumption),if_neg (by assumption)] at h
  obtain⟨y0,y1,y2,y3,y4,e,a,b,c,d,f,g⟩:=h
  exact⟨y0,y1,y2,y3,y4,e,a.aR hf,b.aR hf,c.aR hf,d.aR hf,fp f hf,g⟩
theorem AU {w w1:World} {b:Nat} {cs:List Value} {t:TypeId} (h:w.heap[b]?=some (.cells cs.toArray t)) (hf:Fr (fun _=>False) w w1):w1.heap[b]?=some (.cells cs.toArray t):=(hf.block _ (lt_of_block h) (fun h=>h)).trans h
theorem vn (k:Nat) (h1:1≤k) (h7:k≤7) (h46:Hid (k=4∨k=6)) (xo:Option Addr) (xc:Nat) (l:List Nat) (E:Nat→Addr) (w:World) (hg:G7 w E) (hw:9≤w.heap.size) (hx:Src w (.slice xo l.length xc) l) (hc:l.length≤xc) (hl:l.length≤1048576) :
  Calls Tryz.prog 9 #[.int .i64 (k:Nat),.slice xo l.length xc] w fun e w'=>e = .returned (.bool true)∧Fr (fun _=>False) w w':=by
 have HG:Hid (∀ V,Fr (fun _=>False) w V→G7 V E∧9≤V.heap.size):=ae (fun V hf=>⟨hg.fr hf (fun _ h=>h.elim),Nat.le_trans hw hf.size⟩)
 have HX:=ae (show u3 w xo l.length xc l from⟨hx,rfl,hc,by omega⟩)
 have HK:=ae (And.intro h1 (And.intro h7 hl))
 clear hg hw hx hc hl h1 h7
 go_enter Tryz.func9,Tryz.ntmps9
 go_wp2_with fail
 refine(u4 k (aa HK).1 (aa HK).2.1 h46 (.slice xo l.length xc) l E w ((aa HG) _ (Fr.refl _ _)).1.g6 ((aa HG) _ (Fr.refl _ _)).2 (aa HX).hx (by have:=(aa HK).2.2;omega)).mono ?_
 rintro e w2 ⟨va,err,rfl,hva,hoa,hE,hz,hv,hf2⟩
 obtain⟨W3,hst3,hb3,hf3⟩:=bz (P:=Tryz.prog) (ty:=44) cx va (heap_alloc_new w2 (.cells cx.toArray 44)) (by rw[hva];rfl) (by rw[hva];exact Tryz.cG) hoa
 have hf23:Fr (fun _=>False) w2 W3:=(al w2 _).trans hf3 (fun g hg e=>by omega)
 have HS3:=ae hst3
 have hf03:=hf2.trans hf23 (fun _ _ h=>h)
 have HV:=ae (And.intro hz (fun h0=>(hv h0).aR hf23))
 have HE:=ae (hE.fr hf23)
 have HB3:=ae hb3
 have HF3:=ae hf03
 have HZA:=ae hva
 clear hst3 hb3 hf3 hf23 hf03 hz hv hE hf2 hoa hva
 go_upto_region 2 with ((with_reducible refine bS ?_);refine aA rfl 44 (.tmp 5) (.tmp 13) rfl _ _ rfl rfl (aa HS3) ?_)
 clear HS3
 go_wp2_with fail
 refine(x7 k (aa HK).1 (aa HK).2.1 h46 xo xc l W3 ((aa HX).aR (aa HF3))).mono ?_
 rintro e w4 ⟨vb,rfl,hvb,hob,hz2,hd,hf4⟩
 obtain⟨nm,hnm⟩:∃ nm,(dI k l).1=nm:=⟨_,rfl⟩
 obtain⟨at',hat⟩:∃ x,(dI k l).2.1=x:=⟨_,rfl⟩
 obtain⟨wy,hwy⟩:∃ x,(dI k l).2.2=x:=⟨_,rfl⟩
 have hfin:dI k l=(nm,at',wy):=by rw[← hnm,← hat,← hwy]
 rw[hnm,hat,hwy]
 have hk2:=xn w4 (.cells cx.toArray 44) (.cells pU.toArray 55)
 obtain⟨W5,hst5,hb5,hf5⟩:=bz (P:=Tryz.prog) (ty:=44) cx vb hk2.1 (by rw[hvb];rfl) (by rw[hvb];exact Tryz.cG) hob
 obtain⟨W6,hst6,hb6,hf6⟩:=bz (P:=Tryz.prog) (ty:=55) pU [.string nm,.int .i64 (at':Nat),.int .i64 (wy:Nat)] ((hf5.block _ (by rw[hk2.2.2];omega) (fun h=>by omega)).trans hk2.2.1) rfl Tryz.dZ (by simp[Value.oneCell'])
 have hs5:=hf5.size
 rw[hk2.2.2] at hs5
 have hb56:=(hf6.block w4.heap.size (by omega) (fun h=>by omega)).trans hb5
 have hf46:Fr (fun _=>False) w4 W6:=(((Fr.refl (fun _=>False) w4).alloc _).alloc _).trans ((hf5.mono (T:=fun k=>k=w4.heap.size∨k=w4.heap.size+1) (fun _ _ h=>.inl h)).trans hf6 (fun k _ h=>.inr h)) (fun k hk e=>by omega)
 have hf36:=hf4.trans hf46 (fun _ _ h=>h)
 have hf06:=(aa HF3).trans hf36 (fun _ _ h=>h)
 have HS5:=ae hst5
 have HS6:=ae hst6
 have HR1:=ae (af (AU (aa HB3) hf36))
 have HR2:=ae (af hb56)
 have HB6:=ae hb6
 have HZ1:Hid ((Tryz.prog.info? 44).map (·.size)=some va.length):=ae (by rw[aa HZA];exact Tryz.cG)
 have HZ2:Hid ((Tryz.prog.info? 44).map (·.size)=some vb.length):=ae (by rw[hvb];exact Tryz.cG)
 have hsame:Calls Tryz.prog 18 #[.agg va.toArray,.agg vb.toArray] W6 fun e w'=>e = .returned (.bool true)∧Fr (fun _=>False) W6 w':=by
  by_cases h0:(dI k l).2.2=0
  ·exact zg k (aa HK).1 (aa HK).2.1 h46 (((aa HV).2 h0).aR hf36) ((hd h0).aR hf46)
  ·rw[(aa HV).1 h0,hz2 h0]
   exact zk W6
 have HSM:=ae hsame
 have hE6:=(aa HE).fr hf36
 rw[hfin] at hE6
 have HE6:=ae hE6
 have HF6:=ae hf06
 clear hst5 hst6 hb5 hb6 hf5 hf6 hs5 hb56 hf46 hf36 hf06 hk2 hsame hE6 hvb hob hz2 hd hf4 hnm hat hwy hfin HV HE HB3 HF3 HZA
 go_upto_region 3 with (first|((with_reducible refine bS ?_);refine aA rfl 44 (.tmp 7) (.tmp 19) rfl _ _ rfl rfl (aa HS5) ?_)|((with_reducible refine bS ?_);refine aA rfl 55 (.tmp 8) (.tmp 20) rfl _ _ rfl rfl (aa HS6) ?_))
 clear HS5 HS6
 go_wp2_with (first|((with_reducible refine bG 21 ?_);refine wpList_load_mid rfl 44 (.tmp 5) rfl w2.heap.size 0 rfl _ _ (aa HR1) Tryz.underlying44 rfl (aa HZ1) ?_)|((with_reducible refine bG 22 ?_);refine wpList_load_mid rfl 44 (.tmp 7) rfl w4.heap.size 0 rfl _ _ (aa HR2) Tryz.underlying44 rfl (aa HZ2) ?_))
 refine(aa HSM).mono ?_
 rintro e w7 ⟨rfl,hf7⟩
 have HR3:=ae (af (AU (aa HB6) hf7))
 have hE7:=(aa HE6).fr hf7
 have HF7:=ae ((aa HF6).trans hf7 (fun _ _ h=>h))
 clear hf7 HE6 HF6 HSM HR1 HR2 HZ1 HZ2 HB6
 rcases hE7 with ⟨h0,rfl⟩|⟨h1,h7,fb,rfl,hb⟩
 ·simp only at h0
  subst h0
  go_wp2_with ((with_reducible refine bG 26 ?_);refine ai rfl 55 (.tmp 8) rfl (w4.heap.size+1) 0 rfl _ _ (aa HR3) Tryz.underlying55 rfl Tryz.dZ ?_)
  refine(qb nm (at':Nat) _).mono ?_
  rintro e w8 ⟨rfl,hf8⟩
  have HF8:=ae ((aa HF7).trans hf8 (fun _ _ h=>h))
  clear hf8
  go_wp2_with fail
  go_ret
  exact⟨rfl,aa HF8⟩
 ·have HT:=ae (And.intro h1 (And.intro h7 hb))
  clear h1 h7 hb
  go_wp2_with ((with_reducible refine bG 26 ?_);refine ai rfl 55 (.tmp 8) rfl (w4.heap.size+1) 0 rfl _ _ (aa HR3) Tryz.underlying55 rfl Tryz.dZ ?_)
  refine(dV wy fb at' nm E _ ((aa HG) _ (aa HF7)).1 (aa HT).1 (aa HT).2.1 (aa HT).2.2).mono ?_
  rintro e w8 ⟨rfl,hf8⟩
  have HF8:=ae ((aa HF7).trans hf8 (fun _ _ h=>h))
  clear hf8
  go_wp2_with fail
  go_ret
  exact⟨rfl,aa HF8⟩
end Go.Proofs.YtdcopmkgmbiikaaGreatDoor
namespace Go.Proofs.YtdcopmkgmbiikaaGreatDoor
open Go.ChangeShapes Go.WideShapes Go.ChangeAt Go.RowKit
theorem fN (H:Type) (enc:TypeId × Value→H) (W:World) (args:Array Value) (ds gs:List (DataW H)) (before:List MemPlace)
  (hW:DataW.Whole enc Tryz.prog Tryz.f3.params.toList Rows.wireKnownSpec.vars false W args.toList ds gs before) (hL:laidMetH Tryz.prog Rows.wireKnownUptoRow.laid W) (hsh:W.ShapedOpen Tryz.prog) :
  Calls Tryz.prog 3 args W fun e W'=>∃ v,e = .returned v∧Rows.wireKnownSpec.post enc Tryz.prog Tryz.f3 false true false false W args v W':=by
 have hW':=hW
 obtain⟨p,q,hA0,hV,rfl,hfz,hnd⟩:=hW
 have hA:DataW.TrodAll enc Tryz.prog W 0 (fun _=>true) true Tryz.f3.params.toList args.toList ds p:=hA0
 rw[Tryz.params3] at hA
 obtain⟨hargs,rfl,rfl⟩:=trodAll_nil hA
 obtain rfl:args = #[]:=by cases args;simp_all
 obtain⟨rfl,rfl⟩:=trodVars_none hV
 obtain⟨E,hg⟩:=td hL
 refine(rM E W hg (Aj hsh) (fun V n r x hg hw hk hx=>zA E V n r x hg hw hk hx) (fun V v hk hg hw=>Ar E V v hk hg hw) (fun k V xo xc l hk hg hw hx hc hl=>vn k (by omega) (by omega) (ae hk) xo xc l E V hg hw hx hc hl)).mono fun e W' ⟨he,hf⟩=>?_
 subst he
 have hb:=hf.low
 refine⟨_,rfl,_,_,_,[],[],[],hW',?_,?_,?_,hb.frame _,fun h=>by cases h⟩
 ·exact trodAll_cons_mk (shut_bool Tryz.underlying4 true) trodAll_mk0
 ·exact trodAll_mk0
 ·rfl
theorem j6 (os:Os):laidMetH Tryz.prog Rows.wireKnownUptoRow.laid ((errWorld8 os).forCall (fun _ _=>0) ⟨#[],#[],[]⟩).memory:=
 laidMetH_of_parts (laidMet_of_run' 8 (by kernel_rfl) (by kernel_rfl)) (by kernel_rfl)
theorem mO (os:Os) {H:Type} (enc:TypeId × Value→H):∃ places,DataW.whole enc Tryz.prog ((errWorld8 os).forCall (fun _ _=>0) ⟨#[],#[],[]⟩).memory Tryz.f3.params.toList Rows.wireKnownSpec.vars false (#[]:Array Value).toList 8=some ([],[],places):=
 ⟨[],by kernel_rfl⟩
theorem lD (os:Os) (started:os.Started) (H:Type) (enc:TypeId × Value→H) (F:Stop.Interp) :
  ReturnsInHanded {} Tryz.checked os 3 .any ((Rows.OpenSpec.upto Rows.wireKnownSpec).preRow enc Tryz.prog Tryz.f3 Rows.wireKnownUptoRow.domain false Rows.wireKnownUptoRow.laid) (((Rows.OpenSpec.upto Rows.wireKnownSpec).at F).post enc Tryz.prog Tryz.f3 false true false false):=by
 obtain⟨places,hx⟩:=mO os enc
 refine returnsInHanded_of_row (C:=Tryz.checked) (s:=Rows.OpenSpec.upto Rows.wireKnownSpec) Tryz.ownKnob started (by kernel_rfl) Tryz.func3
  (witness_row_atRef (enc:=enc) (C:=Tryz.checked) false (errWorld8 os) #[] rfl (by kernel_rfl) (by kernel_rfl) (by kernel_rfl)
   (OpenSpec.preRow_of_cond 8 hx (by kernel_rfl) (fun k hk=>by cases hk;kernel_rfl) (by kernel_rfl) (j6 os))) ?_
 intro W base args ds gs before _ hW _ _ _ hL hsh _
 exact fN H enc W args ds gs before hW hL hsh
theorem oD:Rows.WireKnownUptoSaid:=
 OpenClaim.holds_of_cond 3 Tryz.f3 rfl rfl rfl rfl rfl rfl rfl ⟨rfl,rfl,rfl,rfl,rfl⟩ rfl rfl rfl rfl rfl (by kernel_rfl) Tryz.func3 (by kernel_rfl)
  (of_decide_eq_true (by kernel_rfl)) (by unfold Func.isWrapper;first|(rw[if_pos (by decide +kernel)];kernel_rfl)|(rw[if_neg (by decide +kernel)];exact⟨rfl,rfl⟩))
  (fun os started H enc _ F=>by rw[OpenClaim.pre_eq_preRow];exact lD os started H enc F)
theorem iB (f:FuncId) (fn:Func) (hf:Tryz.pinned.checked.prog.funcNamed Rows.wireKnownUptoRow.func=some f) (hfn:Tryz.pinned.checked.prog.funcs[f]?=some fn) :
  true=Tryz.pinned.checked.prog.looks []∧∀ (j:Nat) t,fn.params[j]?=some t→Tryz.pinned.checked.prog.wantsStandIn t=false:=by
 obtain rfl:f=3:=Option.some.inj ((show Tryz.prog.funcNamed Rows.wireKnownUptoRow.func=some 3 by kernel_rfl).symm.trans hf) |>.symm
 obtain rfl:fn=Tryz.f3:=(Option.some.inj (Tryz.func3.symm.trans hfn)).symm
 refine⟨by kernel_rfl,fun j t ht=>?_⟩
 rw[Tryz.params3] at ht
 simp at ht
theorem oa:Rows.WireKnownUptoCardSaid:=
 Claim7.holds_tied_plain_at .later [] _ _ _ _ oD (fun _ h=>by cases h) (by kernel_rfl) (fun _ h=>by cases h) wireKnownUpto_row_tie rfl ⟨rfl,rfl⟩ (by kernel_rfl) rfl iB (by kernel_rfl)
theorem jV (os:Os):laidMetH Tryz.prog Rows.wireKnownRow.laid ((errWorld8 os).forCall (fun _ _=>0) ⟨#[],#[],[]⟩).memory:=
 laidMetH_of_parts (laidMet_of_run' 8 (by kernel_rfl) (by kernel_rfl)) (by kernel_rfl)
theorem mr (os:Os) {H:Type} (enc:TypeId × Value→H):∃ places,DataW.whole enc Tryz.prog ((errWorld8 os).forCall (fun _ _=>0) ⟨#[],#[],[]⟩).memory Tryz.f3.params.toList Rows.wireKnownSpec.vars false (#[]:Array Value).toList 8=some ([],[],places):=
 ⟨[],by kernel_rfl⟩
theorem lO (os:Os) (started:os.Started) (H:Type) (enc:TypeId × Value→H) (F:Stop.Interp) :
  ReturnsInHanded {} Tryz.checked os 3 .any ((OpenSpec.ofChange Rows.wireKnownSpec).preRow enc Tryz.prog Tryz.f3 Rows.wireKnownRow.domain false Rows.wireKnownRow.laid) (((OpenSpec.ofChange Rows.wireKnownSpec).at F).post enc Tryz.prog Tryz.f3 false true false false):=by
 obtain⟨places,hx⟩:=mr os enc
 refine returnsInHanded_of_row (C:=Tryz.checked) (s:=OpenSpec.ofChange Rows.wireKnownSpec) Tryz.ownKnob started (by kernel_rfl) Tryz.func3
  (witness_row_atRef (enc:=enc) (C:=Tryz.checked) false (errWorld8 os) #[] rfl (by kernel_rfl) (by kernel_rfl) (by kernel_rfl)
   (OpenSpec.preRow_of_cond 8 hx (by kernel_rfl) (fun k hk=>by cases hk) (by kernel_rfl) (jV os))) ?_
 intro W base args ds gs before _ hW _ _ _ hL hsh _
 exact fN H enc W args ds gs before hW hL hsh
theorem pG:Rows.WireKnownSaid:=
 OpenClaim.holds_of_cond 3 Tryz.f3 rfl rfl rfl rfl rfl rfl rfl ⟨rfl,rfl,rfl,rfl,rfl⟩ rfl rfl rfl rfl rfl (by kernel_rfl) Tryz.func3 (by kernel_rfl)
  (of_decide_eq_true (by kernel_rfl)) (by unfold Func.isWrapper;first|(rw[if_pos (by decide +kernel)];kernel_rfl)|(rw[if_neg (by decide +kernel)];exact⟨rfl,rfl⟩))
  (fun os started H enc _ F=>by rw[OpenClaim.pre_eq_preRow];exact lO os started H enc F)
theorem wknown1_card:Rows.WireKnownCardSaid:=
 Claim7.holds_tied_plain_at .later [] _ _ _ _ pG (fun _ h=>by cases h) (by kernel_rfl) (fun _ h=>by cases h) wireKnown_row_tie rfl ⟨rfl,rfl⟩ (by kernel_rfl) rfl iB (by kernel_rfl)
#print axioms wknown1_card
end Go.Proofs.YtdcopmkgmbiikaaGreatDoor
