import Derived.Test.YtdcopmkgmbiikaaGreatDoorPg7
import Derived.Test.YtdcopmkgmbiikaaGreatDoorPg2
import Derived.Test.YtdcopmkgmbiikaaGreatDoorPg5
import Derived.Test.YtdcopmkgmbiikaaGreatDoorPg1
import Derived.Maps.AppendAt
import Derived.Deep.MidRow
import Derived.Test.YtdcopmkgmbiikaaGreatDoorPg4
import Derived.Test.YtdcopmkgmbiikaaGreatDoorPg6
import Derived.Deep.Cut
import Derived.Deep.CutRange
set_option maxRecDepth 100000
set_option maxHeartbeats 4000000
set_option linter.unusedSimpArgs false
namespace Go.Proofs.YtdcopmkgmbiikaaGreatDoor
open Go.RowKit
theorem dq {n:Nat} (h:n<4294967296):IntKind.u32.wrap ((n:Nat):Int)=(n:Int):=by rw[IntKind.wrap_u32];omega
theorem pZ {n:Nat} (h:n<256):IntKind.u8.wrap ((n:Nat):Int)=(n:Int):=by rw[IntKind.wrap_u8];omega
theorem Tryz.vu:(Tryz.prog.info? 27).map (·.size)=some 2:=by kernel_rfl
theorem Tryz.vO:(Tryz.prog.info? 25).map (·.size)=some 2:=by kernel_rfl
theorem Tryz.vA:(Tryz.prog.info? 37).map (·.size)=some 4:=by kernel_rfl
structure B3 (w W:World) (T:TypeId) (R Z:List Value):Prop where
 b:B2 w W R
 c:W.heap[w.heap.size+1+1]?=some (.cells Z.toArray T)
section
variable {w W W':World} {T:TypeId} {R R' Z V:List Value} {q:Q} {xo:Option Addr} {len xc:Nat} {all:List Nat}
theorem B3.b0 (h:B3 w W T R Z):W.heap[w.heap.size]?=some (.cells R.toArray 120):=h.b.b0
theorem B3.n (h:B3 w W T R Z):R.length=7:=h.b.n
theorem B3.aD (h:B3 w W T R Z) (hf:Fr (fun _=>False) W W'):B3 w W' T R Z:=⟨h.b.aD hf,(hf.block _ (lt_of_block h.c) (fun h=>h)).trans h.c⟩
theorem B3.aU (h:B3 w W T R Z) (hR:QS q xo len xc all R'):∃ W',(Instr.storeAt 120 (.pointer (some ⟨w.heap.size,0,none⟩)) (.agg R'.toArray)).run Tryz.prog W = .ok () W'∧B3 w W' T R' Z:=by
 obtain⟨W',h1,h2,h3⟩:=h.b.aU hR
 exact⟨W',h1,h2,(h3.block _ (lt_of_block h.c) (fun e=>by omega)).trans h.c⟩
theorem B3.fin (h:B3 w W T R Z) (hR:QS q xo len xc all R') (hz:Z.length=V.length) (hi:(Tryz.prog.info? T).map (·.size)=some V.length) (h1:∀ v∈V,v.oneCell'=true) :
  ∃ W1 W2,(Instr.storeAt 120 (.pointer (some ⟨w.heap.size+1,0,none⟩)) (.agg R'.toArray)).run Tryz.prog W = .ok () W1∧(Instr.storeAt T (.pointer (some ⟨w.heap.size+1+1,0,none⟩)) (.agg V.toArray)).run Tryz.prog W1 = .ok () W2∧BE w W2 T R' V:=by
 have hl:=lt_of_block h.c
 obtain⟨W1,e1,c1,f1⟩:=bA (P:=Tryz.prog) (ty:=120) oM R' h.b.b1 (by rw[hR.len];rfl) (by rw[hR.len];exact Tryz.al) hR.one
 have hs:=f1.size
 obtain⟨W2,e2,c2,f2⟩:=bA (P:=Tryz.prog) (ty:=T) Z V ((f1.block _ hl (fun h=>by omega)).trans h.c) hz hi h1
 exact⟨W1,W2,e1,e2,(f2.block _ (by omega) (fun h=>by omega)).trans c1,c2,(h.b.fr.trans f1 (fun k hk e=>by omega)).trans f2 (fun k hk e=>by omega)⟩
end
theorem zk {w:World} {xo:Option Addr} {len xc:Nat} {all:List Nat} {R:List Value} {q:Q} (A:j9 w xo len xc all) (h:QS q xo len xc all R) :
  Calls Tryz.prog 100 #[.agg R.toArray] w fun e w''=>∃ R',e = .returned (.tuple #[.agg R'.toArray,.agg #[.int .u32 (q.gid.2.1:Nat),.int .u32 (q.gid.2.2:Nat)]])∧QS q.gid.1 xo len xc all R'∧Fr (fun _=>False) w w'':=by
 have HA:=ae A
 have HQ:=ae h
 obtain⟨s1,e1⟩:∃ x,q.bV dk 4=x:=⟨_,rfl⟩
 obtain⟨s2,e2⟩:∃ x,s1.1.bV eJ 4=x:=⟨_,rfl⟩
 have h1:s1.2<4294967296:=by rw[← e1];exact Q.go_lt _ 4 0
 have h2:s2.2<4294967296:=by rw[← e2];exact Q.go_lt _ 4 0
 have eg:q.gid=(s2.1,s1.2,s2.2):=by unfold Q.gid;rw[e1,e2]
 have HE:=ae (And.intro e1 e2)
 have HR:=ae (And.intro h1 h2)
 rw[eg]
 have HB0:Hid (B3 w _ 27 R [.int .u32 0,.int .u32 0]):=ae ⟨(B2.start w R h.len).aD (aB _ (.cells [.int .u32 0,.int .u32 0].toArray 27)),(vH w _ _ _).2.2.1⟩
 clear A h e1 e2 h1 h2 eg
 go_enter Tryz.func100,Tryz.ntmps100
 go_wp2_with (first|((with_reducible refine av 7 ?_);refine wpList_load_mid rfl 120 (.tmp 1) rfl w.heap.size 0 rfl _ _ (af (aa HB0).b0) Tryz.underlying120 rfl (by rw[(aa HB0).n];exact Tryz.al) ?_))
 refine(cG (aa HA) (aa HB0).b.fr (aa HQ) dk 4 (.inr (.inl rfl))).mono ?_
 rintro e w1 ⟨R1,rfl,hQ1,hf1⟩
 rw[(aa HE).1] at hQ1 ⊢
 obtain⟨w2,hst,hB2⟩:=((aa HB0).aD hf1).aU hQ1
 have HST:=ae hst
 have HB2:=ae hB2
 have HQ1:=ae hQ1
 clear hst hB2 hQ1 hf1 HB0 HQ
 go_upto_region 2 with (first|((with_reducible refine aq ?_);refine ag rfl 120 (.tmp 1) (.tmp 9) rfl _ _ rfl rfl (aa HST) ?_))
 clear HST
 go_wp2_with (first|((with_reducible refine av 12 ?_);refine wpList_load_mid rfl 120 (.tmp 1) rfl w.heap.size 0 rfl _ _ (af (aa HB2).b0) Tryz.underlying120 rfl (by rw[(aa HB2).n];exact Tryz.al) ?_))
 refine(cG (aa HA) (aa HB2).b.fr (aa HQ1) eJ 4 (.inr (.inl rfl))).mono ?_
 rintro e w3 ⟨R3,rfl,hQ3,hf3⟩
 rw[(aa HE).2] at hQ3 ⊢
 obtain⟨w4,hst,hB4⟩:=((aa HB2).aD hf3).aU hQ3
 obtain⟨w5,w6,t1,t2,hE⟩:=hB4.fin (V:=[.int .u32 (s1.2:Nat),.int .u32 (s2.2:Nat)]) hQ3 rfl Tryz.vu (by simp[Value.oneCell'])
 have HST:=ae hst
 have HS1:=ae t1
 have HS2:=ae t2
 have HB4:=ae hB4
 have HX:=ae (And.intro hQ3 hE)
 have hw1:=dq (aa HR).1
 have hw2:=dq (aa HR).2
 clear hst t1 t2 hB4 hQ3 hE hf3 HB2 HQ1
 go_wp2_with (first|((with_reducible refine aq ?_);refine ag rfl 120 (.tmp 1) (.tmp 14) rfl _ _ rfl rfl (aa HST) ?_)|((with_reducible refine av 16 ?_);refine wpList_load_mid rfl 120 (.tmp 1) rfl w.heap.size 0 rfl _ _ (af (aa HB4).b0) Tryz.underlying120 rfl (by rw[(aa HB4).n];exact Tryz.al) ?_)|((with_reducible refine aq ?_);refine ag rfl 120 (.tmp 2) (.tmp 16) rfl _ _ rfl rfl (aa HS1) ?_)|((with_reducible refine aq ?_);refine ag rfl 27 (.tmp 3) (.tmp 21) rfl _ _ rfl rfl (aa HS2) ?_))
 exact fq (aa HX).2 (aa HX).1.len _ Tryz.underlying27 rfl Tryz.vu rfl (by simp) (by simp) ⟨R3,rfl,(aa HX).1,(aa HX).2.fr⟩
theorem jM {w w':World} {xo:Option Addr} {len xc:Nat} {all:List Nat} {R:List Value} {q:Q} (A:j9 w xo len xc all) (hf:Fr (fun _=>False) w w') (h:QS q xo len xc all R) :
  Calls Tryz.prog 100 #[.agg R.toArray] w' fun e w''=>∃ R',e = .returned (.tuple #[.agg R'.toArray,.agg #[.int .u32 (q.gid.2.1:Nat),.int .u32 (q.gid.2.2:Nat)]])∧QS q.gid.1 xo len xc all R'∧Fr (fun _=>False) w' w'':=zk (A.aD hf) h
theorem uc {w:World} {xo:Option Addr} {len xc:Nat} {all:List Nat} {R:List Value} {q:Q} (A:j9 w xo len xc all) (h:QS q xo len xc all R) :
  Calls Tryz.prog 104 #[.agg R.toArray] w fun e w''=>∃ R',e = .returned (.tuple #[.agg R'.toArray,.int .u8 (q.gn.2:Nat)])∧QS q.gn.1 xo len xc all R'∧Fr (fun _=>False) w w'':=by
 have HA:=ae A
 have HQ:=ae h
 obtain⟨s1,e1⟩:∃ x,q.bV fY 1=x:=⟨_,rfl⟩
 obtain⟨n4,e4⟩:∃ x,(if 10<s1.2 then 5 else 0:Nat)=x:=⟨_,rfl⟩
 have h1:s1.2<256:=by rw[← e1];exact Q.go_lt _ 1 0
 have eg:q.gn=(s1.1.ah n4,s1.2):=by unfold Q.gn;rw[e1,e4]
 rw[eg]
 have HE:=ae (And.intro e1 h1)
 have HN4:=ae (show(if decide ((s1.2:Int) > 10)=true then 5 else 0)=n4 by
  rw[← e4]
  by_cases hz:10<s1.2
  ·rw[if_pos (show decide ((s1.2:Int) > 10)=true from decide_eq_true (by omega)),if_pos hz]
  ·rw[if_neg (show ¬ decide ((s1.2:Int) > 10)=true by simp;omega),if_neg hz])
 clear e1 e4 h1 eg
 have HB0:=ae (B2.start w R h.len)
 clear A h
 go_enter Tryz.func104,Tryz.ntmps104
 go_wp2_with (first|((with_reducible refine av 6 ?_);refine wpList_load_mid rfl 120 (.tmp 1) rfl w.heap.size 0 rfl _ _ (af (aa HB0).b0) Tryz.underlying120 rfl (by rw[(aa HB0).n];exact Tryz.al) ?_))
 refine(cG (aa HA) (aa HB0).fr (aa HQ) fY 1 (.inl rfl)).mono ?_
 rintro e w1 ⟨R1,rfl,hQ1,hf1⟩
 rw[(aa HE).1] at hQ1 ⊢
 obtain⟨w2,hst,hB2,_⟩:=((aa HB0).aD hf1).aU hQ1
 have HST:=ae hst
 have HB2:=ae hB2
 have HK:=ae (fun so hh W=>dR (w':=W) (aa HA).hl hQ1 so 5 n4 (by decide) (by decide) hh)
 clear hst hB2 hQ1 hf1 HB0 HQ
 go_upto_region 2 with (first|((with_reducible refine aq ?_);refine ag rfl 120 (.tmp 1) (.tmp 8) rfl _ _ rfl rfl (aa HST) ?_))
 clear HST
 go_wp2_with (first|((with_reducible refine av 10 ?_);refine wpList_load_mid rfl 120 (.tmp 1) rfl w.heap.size 0 rfl _ _ (af (aa HB2).b0) Tryz.underlying120 rfl (by rw[(aa HB2).n];exact Tryz.al) ?_))
 refine((aa HK) _ (aa HN4) _).mono ?_
 rintro e w3 ⟨R3,rfl,hQ3,hf3⟩
 obtain⟨w4,hst,hld,_,hf4⟩:=((aa HB2).aD hf3).fin hQ3
 have HST:=ae hst
 have HX:=ae (And.intro hQ3 hf4)
 have hw:=pZ (aa HE).2
 clear hst hQ3 hf3 hf4 HB2 HK
 go_wp2_with (first|((with_reducible refine aq ?_);refine ag rfl 120 (.tmp 2) (.tmp 13) rfl _ _ rfl rfl (aa HST) ?_))
 exact bodyPost_ret (v:=.tuple #[.agg R3.toArray,.int .u8 (s1.2:Nat)]) (by simp[results,Tryz.results104,asAddr,hld]) rfl ⟨R3,rfl,(aa HX).1,(aa HX).2⟩
theorem lW {w w':World} {xo:Option Addr} {len xc:Nat} {all:List Nat} {R:List Value} {q:Q} (A:j9 w xo len xc all) (hf:Fr (fun _=>False) w w') (h:QS q xo len xc all R) :
  Calls Tryz.prog 104 #[.agg R.toArray] w' fun e w''=>∃ R',e = .returned (.tuple #[.agg R'.toArray,.int .u8 (q.gn.2:Nat)])∧QS q.gn.1 xo len xc all R'∧Fr (fun _=>False) w' w'':=uc (A.aD hf) h
theorem se {w:World} {xo:Option Addr} {len xc:Nat} {all:List Nat} {R:List Value} {q:Q} (A:j9 w xo len xc all) (h:QS q xo len xc all R) (nm:ByteArray) :
  Calls Tryz.prog 101 #[.agg R.toArray,.string nm,.bool true] w fun e w''=>∃ R',e = .returned (.tuple #[.agg R'.toArray,.int .u32 ((q.dw nm true).2:Nat)])∧QS (q.dw nm true).1 xo len xc all R'∧Fr (fun _=>False) w w'':=by
 have HA:=ae A
 have HQ:=ae h
 obtain⟨s1,e1⟩:∃ x,q.bV nm 4=x:=⟨_,rfl⟩
 obtain⟨n4,e4⟩:∃ x,(if true=false∧s1.2≠0 then 4 else 0:Nat)=x:=⟨_,rfl⟩
 have h1:s1.2<4294967296:=by rw[← e1];exact Q.go_lt _ 4 0
 have eg:q.dw nm true=(s1.1.ah n4,s1.2):=by unfold Q.dw;rw[e1,e4]
 rw[eg]
 have HE:=ae (And.intro e1 h1)
 have HN4:=ae (show(if false=true then 4 else 0)=n4 by
  rw[← e4]
  by_cases hz:s1.2=0 <;> simp[hz])
 clear e1 e4 h1 eg
 have HB0:=ae (B2.start w R h.len)
 clear A h
 go_enter Tryz.func101,Tryz.ntmps101
 go_wp2_with (first|((with_reducible refine av 10 ?_);refine wpList_load_mid rfl 120 (.tmp 3) rfl w.heap.size 0 rfl _ _ (af (aa HB0).b0) Tryz.underlying120 rfl (by rw[(aa HB0).n];exact Tryz.al) ?_))
 refine(cG (aa HA) (aa HB0).fr (aa HQ) nm 4 (.inr (.inl rfl))).mono ?_
 rintro e w1 ⟨R1,rfl,hQ1,hf1⟩
 rw[(aa HE).1] at hQ1 ⊢
 obtain⟨w2,hst,hB2,_⟩:=((aa HB0).aD hf1).aU hQ1
 have HST:=ae hst
 have HB2:=ae hB2
 have HK:=ae (fun so hh W=>dR (w':=W) (aa HA).hl hQ1 so 4 n4 (by decide) (by decide) hh)
 clear hst hB2 hQ1 hf1 HB0 HQ
 go_upto_region 2 with (first|((with_reducible refine aq ?_);refine ag rfl 120 (.tmp 3) (.tmp 13) rfl _ _ rfl rfl (aa HST) ?_))
 clear HST
 go_wp2_with (first|((with_reducible refine av 15 ?_);refine wpList_load_mid rfl 120 (.tmp 3) rfl w.heap.size 0 rfl _ _ (af (aa HB2).b0) Tryz.underlying120 rfl (by rw[(aa HB2).n];exact Tryz.al) ?_))
 refine((aa HK) _ (aa HN4) _).mono ?_
 rintro e w3 ⟨R3,rfl,hQ3,hf3⟩
 obtain⟨w4,hst,hld,_,hf4⟩:=((aa HB2).aD hf3).fin hQ3
 have HST:=ae hst
 have HX:=ae (And.intro hQ3 hf4)
 have hw:=dq (aa HE).2
 clear hst hQ3 hf3 hf4 HB2 HK
 go_wp2_with (first|((with_reducible refine aq ?_);refine ag rfl 120 (.tmp 6) (.tmp 22) rfl _ _ rfl rfl (aa HST) ?_))
 exact bodyPost_ret (v:=.tuple #[.agg R3.toArray,.int .u32 (s1.2:Nat)]) (by simp[results,Tryz.results101,asAddr,hld]) rfl ⟨R3,rfl,(aa HX).1,(aa HX).2⟩
theorem sb {w:World} {xo:Option Addr} {len xc:Nat} {all:List Nat} {R:List Value} {q:Q} (A:j9 w xo len xc all) (h:QS q xo len xc all R) (nm:ByteArray) :
  Calls Tryz.prog 101 #[.agg R.toArray,.string nm,.bool false] w fun e w''=>∃ R',e = .returned (.tuple #[.agg R'.toArray,.int .u32 ((q.dw nm false).2:Nat)])∧QS (q.dw nm false).1 xo len xc all R'∧Fr (fun _=>False) w w'':=by
 have HA:=ae A
 have HQ:=ae h
 obtain⟨s1,e1⟩:∃ x,q.bV nm 4=x:=⟨_,rfl⟩
 obtain⟨n4,e4⟩:∃ x,(if false=false∧s1.2≠0 then 4 else 0:Nat)=x:=⟨_,rfl⟩
 have h1:s1.2<4294967296:=by rw[← e1];exact Q.go_lt _ 4 0
 have eg:q.dw nm false=(s1.1.ah n4,s1.2):=by unfold Q.dw;rw[e1,e4]
 rw[eg]
 have HE:=ae (And.intro e1 h1)
 have HN4:=ae (show(if ((s1.2:Int) != 0)=true then 4 else 0)=n4 by
  rw[← e4]
  by_cases hz:s1.2=0 <;> simp[hz])
 clear e1 e4 h1 eg
 have HB0:=ae (B2.start w R h.len)
 clear A h
 go_enter Tryz.func101,Tryz.ntmps101
 go_wp2_with (first|((with_reducible refine av 10 ?_);refine wpList_load_mid rfl 120 (.tmp 3) rfl w.heap.size 0 rfl _ _ (af (aa HB0).b0) Tryz.underlying120 rfl (by rw[(aa HB0).n];exact Tryz.al) ?_))
 refine(cG (aa HA) (aa HB0).fr (aa HQ) nm 4 (.inr (.inl rfl))).mono ?_
 rintro e w1 ⟨R1,rfl,hQ1,hf1⟩
 rw[(aa HE).1] at hQ1 ⊢
 obtain⟨w2,hst,hB2,_⟩:=((aa HB0).aD hf1).aU hQ1
 have HST:=ae hst
 have HB2:=ae hB2
 have HK:=ae (fun so hh W=>dR (w':=W) (aa HA).hl hQ1 so 4 n4 (by decide) (by decide) hh)
 clear hst hB2 hQ1 hf1 HB0 HQ
 go_upto_region 2 with (first|((with_reducible refine aq ?_);refine ag rfl 120 (.tmp 3) (.tmp 13) rfl _ _ rfl rfl (aa HST) ?_))
 clear HST
 go_wp2_with (first|((with_reducible refine av 15 ?_);refine wpList_load_mid rfl 120 (.tmp 3) rfl w.heap.size 0 rfl _ _ (af (aa HB2).b0) Tryz.underlying120 rfl (by rw[(aa HB2).n];exact Tryz.al) ?_))
 refine((aa HK) _ (aa HN4) _).mono ?_
 rintro e w3 ⟨R3,rfl,hQ3,hf3⟩
 obtain⟨w4,hst,hld,_,hf4⟩:=((aa HB2).aD hf3).fin hQ3
 have HST:=ae hst
 have HX:=ae (And.intro hQ3 hf4)
 have hw:=dq (aa HE).2
 clear hst hQ3 hf3 hf4 HB2 HK
 go_wp2_with (first|((with_reducible refine aq ?_);refine ag rfl 120 (.tmp 6) (.tmp 22) rfl _ _ rfl rfl (aa HST) ?_))
 exact bodyPost_ret (v:=.tuple #[.agg R3.toArray,.int .u32 (s1.2:Nat)]) (by simp[results,Tryz.results101,asAddr,hld]) rfl ⟨R3,rfl,(aa HX).1,(aa HX).2⟩
theorem gx {w w':World} {xo:Option Addr} {len xc:Nat} {all:List Nat} {R:List Value} {q:Q} (A:j9 w xo len xc all) (hf:Fr (fun _=>False) w w') (h:QS q xo len xc all R) (nm:ByteArray) (u:Bool) :
  Calls Tryz.prog 101 #[.agg R.toArray,.string nm,.bool u] w' fun e w''=>∃ R',e = .returned (.tuple #[.agg R'.toArray,.int .u32 ((q.dw nm u).2:Nat)])∧QS (q.dw nm u).1 xo len xc all R'∧Fr (fun _=>False) w' w'':=by
 cases u
 ·exact sb (A.aD hf) h nm
 ·exact se (A.aD hf) h nm
def CP:List Value:=[.int .u32 0,.slice none 0 0]
theorem sZ {w:World} {xo:Option Addr} {len xc:Nat} {all:List Nat} {R:List Value} {q:Q} (A:j9 w xo len xc all) (h:QS q xo len xc all R) :
  Calls Tryz.prog 62 #[.agg R.toArray] w fun e w''=>∃ R' y,e = .returned (.tuple #[.agg R'.toArray,.agg #[.int .u32 (q.cQ.2.1:Nat),y]])∧QS q.cQ.1 xo len xc all R'∧Src w'' y q.cQ.2.2∧(∀ g o m c,y = .slice (some ⟨g,o,none⟩) m c→w.heap.size≤g)∧Fr (fun _=>False) w w'':=by
 have HA:=ae A
 have HQ:=ae h
 obtain⟨s1,e1⟩:∃ x,q.bV dC 4=x:=⟨_,rfl⟩
 obtain⟨s2,e2⟩:∃ x,s1.1.many fZ 1 32=x:=⟨_,rfl⟩
 have h1:s1.2<4294967296:=by rw[← e1];exact Q.go_lt _ 4 0
 have eg:q.cQ=(s2.1,s1.2,s2.2):=by rw[← e2,← e1];rfl
 rw[eg]
 have HE:=ae (And.intro e1 (And.intro e2 h1))
 have HB0:=ae (BX.start w 25 R CP h.len)
 clear A h e1 e2 h1 eg
 go_enter Tryz.func62,Tryz.ntmps62
 go_wp2_with (first|((with_reducible refine av 7 ?_);refine wpList_load_mid rfl 120 (.tmp 1) rfl w.heap.size 0 rfl _ _ (af (aa HB0).b0) Tryz.underlying120 rfl (by rw[(aa HB0).n];exact Tryz.al) ?_))
 refine(cG (aa HA) (aa HB0).fr (aa HQ) dC 4 (.inr (.inl rfl))).mono ?_
 rintro e wa1 ⟨Ra1,rfl,hQa,hfa⟩
 rw[(aa HE).1] at hQa ⊢
 obtain⟨wb1,hst,hBb,hfb⟩:=((aa HB0).aD hfa).aU hQa
 have hw:=dq (aa HE).2.2
 have HST:=ae hst
 have HB1b:=ae hBb
 have HQ1:=ae hQa
 clear hst hBb hfb hfa hQa HB0 HQ   
 have r0:=(aa HB1b).cell 0 _ rfl
 have z0:=(aa HB1b).ep 0
 have l0:=ab r0
 go_upto_region 4 with (first|((with_reducible refine aq ?_);refine ag rfl 120 (.tmp 1) (.tmp 9) rfl _ _ rfl rfl (aa HST) ?_))
 clear HST
 have HB2:Hid (BX w _ 25 Ra1 CP [.int .u32 (s1.2:Nat),.slice none 0 0]):=ae ((aa HB1b).bL 0 (.int .u32 (s1.2:Nat)))
 clear r0 z0 l0
 clear HB1b 
 clear hw
 go_wp2_with (first|((with_reducible refine av 15 ?_);refine wpList_load_mid rfl 120 (.tmp 1) rfl w.heap.size 0 rfl _ _ (af (aa HB2).b0) Tryz.underlying120 rfl (by rw[(aa HB2).n];exact Tryz.al) ?_))
 refine(gB (aa HA) (aa HB2).fr (aa HQ1) fZ 1 32 (by decide)).mono ?_
 rintro e wa3 ⟨Ra3,sx,sn,sc,rfl,hQa,hsa,hna,hfa⟩
 rw[(aa HE).2.1] at hQa hsa
 have hlz:=(aa HB2).lt
 obtain⟨wb3,hst,hBb,hfb⟩:=((aa HB2).aD hfa).aU hQa
 have hsb:=hsa.fr hfb (fun g o m c e hx=>by have:=hna g o m c e;omega)
 have hnb:∀ g o m c,Value.slice sx sn sc = .slice (some ⟨g,o,none⟩) m c→w.heap.size+4≤g:=fun g o m c e=>by have:=hna g o m c e;omega
 have HS:=ae (And.intro hsb hnb)
 have HST:=ae hst
 have HB3b:=ae hBb
 have HQ3:=ae hQa
 clear hst hBb hfb hfa hQa HB2 HQ1   hsa hna hsb hnb hlz
 have r1:=(aa HB3b).cell 1 _ rfl
 have z1:=(aa HB3b).ep 1
 have l1:=ab r1
 go_upto_region 5 with (first|((with_reducible refine aq ?_);refine ag rfl 120 (.tmp 1) (.tmp 17) rfl _ _ rfl rfl (aa HST) ?_))
 clear HST
 have HB4:Hid (BX w _ 25 Ra3 CP [.int .u32 (s1.2:Nat),.slice sx sn sc]):=ae ((aa HB3b).bL 1 (.slice sx sn sc))
 clear r1 z1 l1
 clear HB3b 
 have HSS:=ae ((aa HS).1.fr ((Fr.refl (fun k=>k=w.heap.size+1+1+1) _).setCell (p:=⟨w.heap.size+1+1+1,1,none⟩) (.inl rfl) (.slice sx sn sc)) (fun g o m c e hx=>by have:=(aa HS).2 g o m c e;omega))
 refine jJ (aa HB4) (aa HQ3) rfl Tryz.vO (by simp[Value.oneCell']) _ Tryz.underlying25 rfl (by simp) (by simp) (by simp) (by simp) (by decide) (by decide) (by simp) (fun _ _ dst _ _ h=>by cases dst <;> exact h) (fun t' W2 p2 p3 hE hfe=>?_)
 have HE1:=ae hE
 have HF2:=ae hfe
 clear hE hfe
 go_wp2_with fail
 exact fq (aa HE1) (aa HQ3).len _ Tryz.underlying25 rfl Tryz.vO rfl p2 p3 ⟨Ra3,.slice sx sn sc,rfl,aa HQ3,(aa HSS).fr (aa HF2) (fun g o m c e hx=>by have:=(aa HS).2 g o m c e;omega),fun g o m c e=>by have:=(aa HS).2 g o m c e;omega,(aa HE1).fr⟩
theorem vy {w w':World} {xo:Option Addr} {len xc:Nat} {all:List Nat} {R:List Value} {q:Q} (A:j9 w xo len xc all) (hf:Fr (fun _=>False) w w') (h:QS q xo len xc all R) :
  Calls Tryz.prog 62 #[.agg R.toArray] w' fun e w''=>∃ R' y,e = .returned (.tuple #[.agg R'.toArray,.agg #[.int .u32 (q.cQ.2.1:Nat),y]])∧QS q.cQ.1 xo len xc all R'∧Src w'' y q.cQ.2.2∧(∀ g o m c,y = .slice (some ⟨g,o,none⟩) m c→w'.heap.size≤g)∧Fr (fun _=>False) w' w'':=sZ (A.aD hf) h
def Ba:List Value:=[.int .u32 0,.slice none 0 0,.int .u32 0,.slice none 0 0]
theorem pa {w:World} {xo:Option Addr} {len xc:Nat} {all:List Nat} {R:List Value} {q:Q} (A:j9 w xo len xc all) (h:QS q xo len xc all R) :
  Calls Tryz.prog 63 #[.agg R.toArray] w fun e w''=>∃ R' y z,e = .returned (.tuple #[.agg R'.toArray,.agg #[.int .u32 (q.bk.2.1.1:Nat),y,.int .u32 (q.bk.2.2.1:Nat),z]])∧QS q.bk.1 xo len xc all R'∧(Src w'' y q.bk.2.1.2∧Src w'' z q.bk.2.2.2)∧((∀ g o m c,y = .slice (some ⟨g,o,none⟩) m c→w.heap.size≤g)∧∀ g o m c,z = .slice (some ⟨g,o,none⟩) m c→w.heap.size≤g)∧Fr (fun _=>False) w w'':=by
 have HA:=ae A
 have HQ:=ae h
 obtain⟨s1,e1⟩:∃ x,q.cQ=x:=⟨_,rfl⟩
 obtain⟨s2,e2⟩:∃ x,s1.1.bV ey 4=x:=⟨_,rfl⟩
 obtain⟨s3,e3⟩:∃ x,s2.1.many bH 0 32768=x:=⟨_,rfl⟩
 have h1:s2.2<4294967296:=by rw[← e2];exact Q.go_lt _ 4 0
 have eg:q.bk=(s3.1,s1.2,s2.2,s3.2):=by rw[← e3,← e2,← e1];rfl
 rw[eg]
 have HE:=ae (And.intro e1 (And.intro e2 (And.intro e3 h1)))
 have HB0:=ae (BX.start w 37 R Ba h.len)
 clear A h e1 e2 e3 h1 eg
 go_enter Tryz.func63,Tryz.ntmps63
 go_wp2_with (first|((with_reducible refine av 7 ?_);refine wpList_load_mid rfl 120 (.tmp 1) rfl w.heap.size 0 rfl _ _ (af (aa HB0).b0) Tryz.underlying120 rfl (by rw[(aa HB0).n];exact Tryz.al) ?_))
 refine(vy (aa HA) (aa HB0).fr (aa HQ)).mono ?_
 rintro e wa1 ⟨Ra1,yv,rfl,hQa,hsa,hna,hfa⟩
 rw[(aa HE).1] at hQa hsa ⊢
 obtain⟨yx,yc,rfl⟩:=hsa.form
 have hlz:=(aa HB0).lt
 obtain⟨wb1,hst,hBb,hfb⟩:=((aa HB0).aD hfa).aU hQa
 have hsb:=hsa.fr hfb (fun g o m c e hx=>by have:=hna g o m c e;omega)
 have hnb:∀ g o m c,Value.slice yx s1.2.2.length yc = .slice (some ⟨g,o,none⟩) m c→w.heap.size+4≤g:=fun g o m c e=>by have:=hna g o m c e;omega
 have HY:=ae (And.intro hsb hnb)
 have HST:=ae hst
 have HB1b:=ae hBb
 have HQ1:=ae hQa
 clear hst hBb hfb hfa hQa HB0 HQ   hsa hna hsb hnb hlz
 have r0:=(aa HB1b).cell 0 _ rfl
 have z0:=(aa HB1b).ep 0
 have l0:=ab r0
 have r1:=(aa HB1b).cell 1 _ rfl
 have z1:=(aa HB1b).ep 1
 have l1:=ab r1
 go_upto_region 3 with (first|((with_reducible refine aq ?_);refine ag rfl 120 (.tmp 1) (.tmp 9) rfl _ _ rfl rfl (aa HST) ?_))
 clear HST
 have HB2:Hid (BX w _ 37 Ra1 Ba [.int .u32 (s1.2.1:Nat),.slice yx s1.2.2.length yc,.int .u32 0,.slice none 0 0]):=ae (((aa HB1b).bL 0 (.int .u32 (s1.2.1:Nat))).bL 1 (.slice yx s1.2.2.length yc))
 clear r0 z0 l0 r1 z1 l1
 clear HB1b 
 have HY1:=ae ((aa HY).1.fr (((Fr.refl (fun k=>k=w.heap.size+1+1+1) _).setCell (p:=⟨w.heap.size+1+1+1,0,none⟩) (.inl rfl) (.int .u32 (s1.2.1:Nat))).setCell (p:=⟨w.heap.size+1+1+1,1,none⟩) (.inl rfl) (.slice yx s1.2.2.length yc)) (fun g o m c e hx=>by have:=(aa HY).2 g o m c e;omega))
 go_wp2_with (first|((with_reducible refine av 13 ?_);refine wpList_load_mid rfl 120 (.tmp 1) rfl w.heap.size 0 rfl _ _ (af (aa HB2).b0) Tryz.underlying120 rfl (by rw[(aa HB2).n];exact Tryz.al) ?_))
 refine(cG (aa HA) (aa HB2).fr (aa HQ1) ey 4 (.inr (.inl rfl))).mono ?_
 rintro e wa3 ⟨Ra3,rfl,hQa,hfa⟩
 rw[(aa HE).2.1] at hQa ⊢
 obtain⟨wb3,hst,hBb,hfb⟩:=((aa HB2).aD hfa).aU hQa
 have hw:=dq (aa HE).2.2.2
 have HY2:=ae (((aa HY1).fr hfa (fun _ _ _ _ _ h=>h)).fr hfb (fun g o m c e hx=>by have:=(aa HY).2 g o m c e;omega))
 have HST:=ae hst
 have HB3b:=ae hBb
 have HQ3:=ae hQa
 clear hst hBb hfb hfa hQa HB2 HQ1   
 have r2:=(aa HB3b).cell 2 _ rfl
 have z2:=(aa HB3b).ep 2
 have l2:=ab r2
 go_upto_region 5 with (first|((with_reducible refine aq ?_);refine ag rfl 120 (.tmp 1) (.tmp 15) rfl _ _ rfl rfl (aa HST) ?_))
 clear HST
 have HB4:Hid (BX w _ 37 Ra3 Ba [.int .u32 (s1.2.1:Nat),.slice yx s1.2.2.length yc,.int .u32 (s2.2:Nat),.slice none 0 0]):=ae ((aa HB3b).bL 2 (.int .u32 (s2.2:Nat)))
 clear r2 z2 l2
 clear HB3b 
 clear hw
 have HY3:=ae ((aa HY2).fr ((Fr.refl (fun k=>k=w.heap.size+1+1+1) _).setCell (p:=⟨w.heap.size+1+1+1,2,none⟩) (.inl rfl) (.int .u32 (s2.2:Nat))) (fun g o m c e hx=>by have:=(aa HY).2 g o m c e;omega))
 go_wp2_with (first|((with_reducible refine av 21 ?_);refine wpList_load_mid rfl 120 (.tmp 1) rfl w.heap.size 0 rfl _ _ (af (aa HB4).b0) Tryz.underlying120 rfl (by rw[(aa HB4).n];exact Tryz.al) ?_))
 refine(gB (aa HA) (aa HB4).fr (aa HQ3) bH 0 32768 (by decide)).mono ?_
 rintro e wa5 ⟨Ra5,sx,sn,sc,rfl,hQa,hsa,hna,hfa⟩
 rw[(aa HE).2.2.1] at hQa hsa
 have hlz:=(aa HB4).lt
 obtain⟨wb5,hst,hBb,hfb⟩:=((aa HB4).aD hfa).aU hQa
 have HY4:=ae (((aa HY3).fr hfa (fun _ _ _ _ _ h=>h)).fr hfb (fun g o m c e hx=>by have:=(aa HY).2 g o m c e;omega))
 have hsb:=hsa.fr hfb (fun g o m c e hx=>by have:=hna g o m c e;omega)
 have hnb:∀ g o m c,Value.slice sx sn sc = .slice (some ⟨g,o,none⟩) m c→w.heap.size+4≤g:=fun g o m c e=>by have:=hna g o m c e;omega
 have HS:=ae (And.intro hsb hnb)
 have HST:=ae hst
 have HB5b:=ae hBb
 have HQ5:=ae hQa
 clear hst hBb hfb hfa hQa HB4 HQ3   hsa hna hsb hnb hlz
 have r3:=(aa HB5b).cell 3 _ rfl
 have z3:=(aa HB5b).ep 3
 have l3:=ab r3
 go_upto_region 6 with (first|((with_reducible refine aq ?_);refine ag rfl 120 (.tmp 1) (.tmp 23) rfl _ _ rfl rfl (aa HST) ?_))
 clear HST
 have HB6:Hid (BX w _ 37 Ra5 Ba [.int .u32 (s1.2.1:Nat),.slice yx s1.2.2.length yc,.int .u32 (s2.2:Nat),.slice sx sn sc]):=ae ((aa HB5b).bL 3 (.slice sx sn sc))
 clear r3 z3 l3
 clear HB5b 
 have HSS:=ae ((aa HS).1.fr ((Fr.refl (fun k=>k=w.heap.size+1+1+1) _).setCell (p:=⟨w.heap.size+1+1+1,3,none⟩) (.inl rfl) (.slice sx sn sc)) (fun g o m c e hx=>by have:=(aa HS).2 g o m c e;omega))
 have HYY:=ae ((aa HY4).fr ((Fr.refl (fun k=>k=w.heap.size+1+1+1) _).setCell (p:=⟨w.heap.size+1+1+1,3,none⟩) (.inl rfl) (.slice sx sn sc)) (fun g o m c e hx=>by have:=(aa HY).2 g o m c e;omega))
 refine jJ (aa HB6) (aa HQ5) rfl Tryz.vA (by simp[Value.oneCell']) _ Tryz.underlying37 rfl (by simp) (by simp) (by simp) (by simp) (by decide) (by decide) (by simp) (fun _ _ dst _ _ h=>by cases dst <;> exact h) (fun t' W2 p2 p3 hE hfe=>?_)
 have HE1:=ae hE
 have HF2:=ae hfe
 clear hE hfe
 go_wp2_with fail
 exact fq (aa HE1) (aa HQ5).len _ Tryz.underlying37 rfl Tryz.vA rfl p2 p3 ⟨Ra5,.slice yx s1.2.2.length yc,.slice sx sn sc,rfl,aa HQ5,⟨(aa HYY).fr (aa HF2) (fun g o m c e hx=>by have:=(aa HY).2 g o m c e;omega),(aa HSS).fr (aa HF2) (fun g o m c e hx=>by have:=(aa HS).2 g o m c e;omega)⟩,⟨fun g o m c e=>by have:=(aa HY).2 g o m c e;omega,fun g o m c e=>by have:=(aa HS).2 g o m c e;omega⟩,(aa HE1).fr⟩
theorem wU {w w':World} {xo:Option Addr} {len xc:Nat} {all:List Nat} {R:List Value} {q:Q} (A:j9 w xo len xc all) (hf:Fr (fun _=>False) w w') (h:QS q xo len xc all R) :
  Calls Tryz.prog 63 #[.agg R.toArray] w' fun e w''=>∃ R' y z,e = .returned (.tuple #[.agg R'.toArray,.agg #[.int .u32 (q.bk.2.1.1:Nat),y,.int .u32 (q.bk.2.2.1:Nat),z]])∧QS q.bk.1 xo len xc all R'∧(Src w'' y q.bk.2.1.2∧Src w'' z q.bk.2.2.2)∧((∀ g o m c,y = .slice (some ⟨g,o,none⟩) m c→w'.heap.size≤g)∧∀ g o m c,z = .slice (some ⟨g,o,none⟩) m c→w'.heap.size≤g)∧Fr (fun _=>False) w' w'':=pa (A.aD hf) h
structure PT where
 nm:ByteArray
 k:Nat
 u:Nat
 b:List Nat
 wy:Nat
def PT.by (p:PT):List Nat:=if p.k=6 then be 4 p.b.length++p.b else if p.k=5 then be 4 p.u else be p.k p.u
def PT.go (s:Wq) (p:PT):Wq:=((s.named p.nm).ah p.wy).cj p.by
def sA (s:Wq) (l:List PT):Wq:=l.foldl PT.go s
def px (s t:Wq):Prop:=s.l=t.l∧s.f=t.f
theorem px.refl (s:Wq):px s s:=⟨rfl,rfl⟩
theorem px.symm {s t:Wq} (h:px s t):px t s:=⟨h.1.symm,h.2.symm⟩
theorem px.trans {s t u:Wq} (h:px s t) (k:px t u):px s u:=⟨h.1.trans k.1,h.2.trans k.2⟩
theorem yQ (s:Wq) (a b:List PT):sA s (a++b)=sA (sA s a) b:=by unfold sA;rw[List.foldl_append]
theorem go_eqf {s t:Wq} (h:px s t) (p:PT):px (p.go s) (p.go t):=by
 obtain⟨sn,sl,sf⟩:=s
 obtain⟨tn,tl,tf⟩:=t
 obtain⟨h1,h2⟩:=h
 simp only at h1 h2
 subst h1 h2
 exact px.refl _
theorem vR:∀ (L:List PT) {s t:Wq},px s t→px (sA s L) (sA t L)
 | [],_,_,h=>h
 | p::r,_,_,h=>vR r (go_eqf h p)
def sS (out:List Nat):List PT→List Nat × Option (ByteArray × Nat × Nat)
 | []=>(out,none)
 | p::r=>if p.wy≠0 then ([],some (p.nm,out.length,p.wy)) else sS (out++p.by) r
structure PV where
 p:PT
 x:Value
def PV.cs (q:PV):List Value:=[.string q.p.nm,.int .i64 (q.p.k:Nat),.int .u64 (q.p.u:Nat),q.x,.int .i64 (q.p.wy:Nat)]
structure PV.In (w:World) (q:PV):Prop where
 src:Src w q.x q.p.b
 lt:∀ g o n c,q.x = .slice (some ⟨g,o,none⟩) (n+1) c→g<w.heap.size
def PV.AW (q:PV) (S:Nat→Prop):Prop:=∀ g o n c,q.x = .slice (some ⟨g,o,none⟩) (n+1) c→¬ S g
theorem Src.frP {w w':World} {x:Value} {l:List Nat} {S:Nat→Prop} (h:Src w x l) (hf:Fr S w w') (hS:∀ g o n c,x = .slice (some ⟨g,o,none⟩) (n+1) c→¬ S g):Src w' x l:=by
 rcases h with h|⟨g,o,c,hx,hc⟩|h
 ·exact .inl h
 ·cases l with
  | nil=>exact .inr (.inr ⟨_,c,hx,rfl⟩)
  | cons a r=>exact .inr (.inl ⟨g,o,c,hx,fun j v hv=>(hf.cell (p:=⟨g,o+j,none⟩) (ab (hc j v hv)) (hS g o _ c hx)).trans (hc j v hv)⟩)
 ·exact .inr (.inr h)
theorem PV.In.fr {w w':World} {q:PV} {S:Nat→Prop} (h:q.In w) (hf:Fr S w w') (hS:q.AW S):q.In w':=
 ⟨h.src.frP hf hS,fun g o n c e=>Nat.lt_of_lt_of_le (h.lt g o n c e) hf.size⟩
theorem PV.In.aD {w w':World} {q:PV} (h:q.In w) (hf:Fr (fun _=>False) w w'):q.In w':=h.fr hf (fun _ _ _ _ _ h=>h)
theorem PV.In.one {w:World} {q:PV} (h:q.In w):∀ u∈q.cs,u.oneCell'=true:=by
 obtain⟨xo,xc,e⟩:=h.src.form
 intro u hu
 simp only[PV.cs,e,List.mem_cons,List.not_mem_nil,or_false] at hu
 rcases hu with rfl|rfl|rfl|rfl|rfl <;> rfl
theorem vI (l:List PV):(l.flatMap PV.cs).length=l.length * 5:=by
 induction l with
 | nil=>rfl
 | cons x r ih=>rw[List.flatMap_cons,List.length_append,ih,List.length_cons];simp only[PV.cs,List.length_cons,List.length_nil];omega
structure PL (w:World) (base:Nat) (v:Value) (L:List PV):Prop where
 row:w.ownsRow base 110 5 v L.length (L.flatMap PV.cs)
 el:∀ q∈L,q.In w∧q.AW (fun g=>v.ownBlock=some g)
theorem PL.aD {w w':World} {base:Nat} {v:Value} {L:List PV} (h:PL w base v L) (hf:Fr (fun _=>False) w w'):PL w' base v L:=
 ⟨aA h.row (fun g hg=>hf.block g (h.row.lt g hg).2 (fun h=>h)),fun q hq=>⟨(h.el q hq).1.aD hf,(h.el q hq).2⟩⟩
theorem PL.base {w:World} {base base':Nat} {v:Value} {L:List PV} (h:PL w base v L) (hb:base'≤base):PL w base' v L:=⟨aK h.row hb,h.el⟩
theorem PL.nil (w:World) (base:Nat):PL w base (.slice none 0 0) []:=⟨World.ownsRow_nil _ _ _ _,fun q hq=>by simp at hq⟩
theorem PL.form {w:World} {base:Nat} {v:Value} {L:List PV} (h:PL w base v L):∃ ao cap,v = .slice ao L.length cap:=by
 rcases h.row.2 with ⟨e,e2⟩|⟨g,cap,cur,e,_⟩
 ·have:L.length=0:=e2
  exact⟨none,0,by rw[e,this]⟩
 ·exact⟨some ⟨g,0,none⟩,cap,e⟩
theorem PL.cells {w:World} {base:Nat} {xo:Option Addr} {n xc:Nat} {L:List PV} (h:PL w base (.slice xo n xc) L):∀ j u,(L.flatMap PV.cs)[j]?=some u→∃ g o,xo=some ⟨g,o,none⟩∧w.cell? ⟨g,o+j,none⟩=some u:=fun j u hu=>by
 have hj:=(List.getElem?_eq_some_iff.1 hu).1
 rw[vI] at hj
 rcases h.row.2 with ⟨e,e2⟩|⟨g,cap,cur,e,_⟩
 ·have:L.length=0:=e2
  omega
 ·have e3:xo=some ⟨g,0,none⟩:=by injection e
  subst e3
  obtain rfl:n=L.length:=by injection e
  obtain rfl:xc=cap:=by injection e
  refine⟨g,0,rfl,?_⟩
  rw[Nat.zero_add,h.row.cellAt j hj]
  exact hu
theorem PL.lit (w:World) (base:Nat) (X:List PV) (hb:base≤w.heap.size) (hX:∀ q∈X,q.In w) (hn:X.length≤16777216):PL (w.alloc (.cells (X.flatMap PV.cs).toArray 110)) base (.slice (some ⟨w.heap.size,0,none⟩) X.length X.length) X:=
 ⟨by
  have:=World.ownsRow_lit (base:=base) (e:=110) (size:=5) w (X.flatMap PV.cs).toArray X.length hb (by simp only[maxLen];omega) (by rw[List.size_toArray,vI])
  simpa using this,fun q hq=>⟨(hX q hq).aD (aB w _),fun g o n c e hg=>by
  have:=(hX q hq).lt g o n c e
  simp only[Value.ownBlock,Option.some.injEq] at hg
  omega⟩⟩
def Bl (B lo:Nat) (L:List PV):Prop:=∀ q∈L,∀ g o n c,q.x = .slice (some ⟨g,o,none⟩) (n+1) c→g<B∨lo≤g
theorem PL.lt {w:World} {base:Nat} {v:Value} {L:List PV} (h:PL w base v L):∀ g,v.ownBlock=some g→base≤g∧g<w.heap.size:=fun g hg=>h.row.lt g hg
theorem Bl.AW {w:World} {base B lo:Nat} {v:Value} {L X:List PV} (h:PL w base v L) (k:Bl B lo X) (hB:B≤base) (hl:w.heap.size≤lo):∀ q∈X,q.AW (fun g=>v.ownBlock=some g):=fun q hq g o n c e hg=>by
 have h1:=h.lt g hg
 have h2:=k q hq g o n c e
 omega
theorem zC {P:Program} {fn:Func} {R:Ending→World→Prop} {p:Tmp} {ty:TypeId} {tmps:Array Value} {w0:World} (h:fn.results = #[.cell p ty]) (cs:List Value) (d:TypeDesc) (hp:tmps.getD p undef = .pointer (some ⟨w0.heap.size,0,none⟩))
  (hu:P.underlying ty=some d) (hd:d.isRow=true) (hi:(P.info? ty).map (·.size)=some cs.length) (hR:R (.returned (.agg cs.toArray)) (w0.alloc (.cells cs.toArray ty))):bodyPost P fn R .ret ⟨tmps,[]⟩ (w0.alloc (.cells cs.toArray ty)):=by
 refine bodyPost_ret (v:=.agg cs.toArray) ?_ rfl hR
 have hp':tmps[p]?.getD undef = .pointer (some ⟨w0.heap.size,0,none⟩):=by simpa using hp
 simp[results,h,hp',asAddr,run_loadVar_mid (w0.alloc (.cells cs.toArray ty)) w0.heap.size 0 ty cs d (af (heap_alloc_new w0 _)) hu hd hi]
end Go.Proofs.YtdcopmkgmbiikaaGreatDoor
namespace Go.Proofs.YtdcopmkgmbiikaaGreatDoor
open Go.RowKit
end Go.Proofs.YtdcopmkgmbiikaaGreatDoor
namespace Go.Proofs.YtdcopmkgmbiikaaGreatDoor
open Go.RowKit
def eB (op:Nat):List Value:=
 if op=1 then [.bool false,.bool false,.bool true,.bool true,.bool false] else if op=2 then [.bool true,.bool true,.bool false,.bool true,.bool false]
 else if op=3∨op=4∨op=6 then [.bool true,.bool true,.bool false,.bool false,.bool false] else [.bool true,.bool false,.bool false,.bool false,.bool (decide (op=7))]
theorem fA {P:Program} {fn:Func} {R:Ending→World→Prop} {p:Tmp} {ty:TypeId} {tmps:Array Value} {w0:World} (h:fn.results = #[.cell p ty]) (cs:List Value) (d:TypeDesc) (hp:tmps.getD p undef = .pointer (some ⟨w0.heap.size,0,none⟩))
  (hu:P.underlying ty=some d) (hd:d.isRow=true) (hi:(P.info? ty).map (·.size)=some cs.length) (hR:R (.returned (.agg cs.toArray)) (w0.alloc (.cells cs.toArray ty))):bodyPost P fn R .ret ⟨tmps,[]⟩ (w0.alloc (.cells cs.toArray ty)):=zC h cs d hp hu hd hi hR
theorem Tryz.ji:(Tryz.prog.info? 177).map (·.size)=some 5:=by kernel_rfl
theorem Bg (w:World):Calls Tryz.prog 88 #[.int .u8 1] w fun e w'=>e = .returned (.agg (eB 1).toArray)∧Fr (fun _=>False) w w':=by
 go_enter Tryz.func88,Tryz.ntmps88
 go_wp2_with fail
 exact fA rfl (eB 1) _ (by simp) Tryz.underlying177 rfl Tryz.ji ⟨rfl,aB w _⟩
theorem Cf (w:World):Calls Tryz.prog 88 #[.int .u8 2] w fun e w'=>e = .returned (.agg (eB 2).toArray)∧Fr (fun _=>False) w w':=by
 go_enter Tryz.func88,Tryz.ntmps88
 go_wp2_with fail
 exact fA rfl (eB 2) _ (by simp) Tryz.underlying177 rfl Tryz.ji ⟨rfl,aB w _⟩
theorem Ca (w:World):Calls Tryz.prog 88 #[.int .u8 3] w fun e w'=>e = .returned (.agg (eB 3).toArray)∧Fr (fun _=>False) w w':=by
 go_enter Tryz.func88,Tryz.ntmps88
 go_wp2_with fail
 exact fA rfl (eB 3) _ (by simp) Tryz.underlying177 rfl Tryz.ji ⟨rfl,aB w _⟩
theorem BG (w:World):Calls Tryz.prog 88 #[.int .u8 4] w fun e w'=>e = .returned (.agg (eB 4).toArray)∧Fr (fun _=>False) w w':=by
 go_enter Tryz.func88,Tryz.ntmps88
 go_wp2_with fail
 exact fA rfl (eB 4) _ (by simp) Tryz.underlying177 rfl Tryz.ji ⟨rfl,aB w _⟩
theorem BL (w:World):Calls Tryz.prog 88 #[.int .u8 6] w fun e w'=>e = .returned (.agg (eB 6).toArray)∧Fr (fun _=>False) w w':=by
 go_enter Tryz.func88,Tryz.ntmps88
 go_wp2_with fail
 exact fA rfl (eB 6) _ (by simp) Tryz.underlying177 rfl Tryz.ji ⟨rfl,aB w _⟩
theorem BB (w:World):Calls Tryz.prog 88 #[.int .u8 7] w fun e w'=>e = .returned (.agg (eB 7).toArray)∧Fr (fun _=>False) w w':=by
 go_enter Tryz.func88,Tryz.ntmps88
 go_wp2_with fail
 exact fA rfl (eB 7) _ (by simp) Tryz.underlying177 rfl Tryz.ji ⟨rfl,aB w _⟩
theorem Ax (op:Nat) (w:World) (h1:op≠1) (h2:op≠2) (h3:op≠3) (h4:op≠4) (h6:op≠6) (h7:op≠7):Calls Tryz.prog 88 #[.int .u8 (op:Nat)] w fun e w'=>e = .returned (.agg (eB op).toArray)∧Fr (fun _=>False) w w':=by
 have e1:((op:Int) == 1)=false:=by simp;omega
 have e2:((op:Int) == 2)=false:=by simp;omega
 have e3:((op:Int) == 3)=false:=by simp;omega
 have e4:((op:Int) == 4)=false:=by simp;omega
 have e6:((op:Int) == 6)=false:=by simp;omega
 have e7:((op:Int) == 7)=false:=by simp;omega
 have eL:eB op=[.bool true,.bool false,.bool false,.bool false,.bool false]:=by
  unfold eB
  rw[if_neg h1,if_neg h2,if_neg (by omega),decide_eq_false h7]
 rw[eL]
 go_enter Tryz.func88,Tryz.ntmps88
 go_wp2_with fail
 exact fA rfl [.bool true,.bool false,.bool false,.bool false,.bool false] _ (by simp) Tryz.underlying177 rfl Tryz.ji ⟨rfl,aB w _⟩
theorem vX (op:Nat) (w:World):Calls Tryz.prog 88 #[.int .u8 (op:Nat)] w fun e w'=>e = .returned (.agg (eB op).toArray)∧Fr (fun _=>False) w w':=by
 by_cases h1:op=1
 ·subst h1;exact Bg w
 by_cases h2:op=2
 ·subst h2;exact Cf w
 by_cases h3:op=3
 ·subst h3;exact Ca w
 by_cases h4:op=4
 ·subst h4;exact BG w
 by_cases h6:op=6
 ·subst h6;exact BL w
 by_cases h7:op=7
 ·subst h7;exact BB w
 exact Ax op w h1 h2 h3 h4 h6 h7
end Go.Proofs.YtdcopmkgmbiikaaGreatDoor
namespace Go.Proofs.YtdcopmkgmbiikaaGreatDoor
open Go.RowKit
end Go.Proofs.YtdcopmkgmbiikaaGreatDoor
namespace Go.Proofs.YtdcopmkgmbiikaaGreatDoor
open Go.RowKit
end Go.Proofs.YtdcopmkgmbiikaaGreatDoor
namespace Go.Proofs.YtdcopmkgmbiikaaGreatDoor
open Go.RowKit
theorem px.out {s t:Wq} (h:px s t):s.out=t.out:=by unfold Wq.out;rw[h.1,h.2]
def yi (s:Wq) (c:CS) (L:List PT):Prop:=∃ t,c = .wr t∧px t (sA s L)
theorem yi.nil (s:Wq):yi s (.wr s) []:=⟨s,rfl,px.refl s⟩
theorem yi.then {s t:Wq} {c:CS} {a b:List PT} (h:px t (sA s a)) (k:yi t c b):yi s c (a++b):=by
 obtain⟨u,rfl,e⟩:=k
 refine⟨u,rfl,e.trans ?_⟩
 rw[yQ]
 exact vR b h
end Go.Proofs.YtdcopmkgmbiikaaGreatDoor
namespace Go.Proofs.YtdcopmkgmbiikaaGreatDoor
open Go.RowKit
end Go.Proofs.YtdcopmkgmbiikaaGreatDoor
namespace Go.Proofs.YtdcopmkgmbiikaaGreatDoor
open Go.RowKit
theorem Bq (a v:ByteArray) (i:Nat) (h0:i=0→a=⟨#[]⟩):fb [fun v=>dj 1 64 v.size,kY a] v=if dj 1 64 v.size=0∧0<i∧sle v a=true then 6 else dj 1 64 v.size:=by
 simp only[fb]
 by_cases hz:dj 1 64 v.size=0
 ·rw[if_pos hz]
  by_cases hi:i=0
  ·have ha:=h0 hi
   subst ha
   have hs:1≤v.size:=by
    unfold dj at hz
    split at hz
    ·cases hz
    ·split at hz
     ·cases hz
     ·omega
   have hsl:sle v ⟨#[]⟩=false:=by
    unfold sle
    have e0:(ByteArray.mk #[]).toList=[]:=by rw[Lib.toList_data]
    have e1:v.toList≠[]:=by
     rw[Lib.toList_data]
     intro e
     have h3:v.data.size=0:=by rw[← Array.length_toList,e];rfl
     have h2:v.data.size=v.size:=rfl
     omega
    rw[e0,show Op.bytesLess v.toList []=false by cases v.toList <;> rfl]
    simpa using e1
   have e6:kY ⟨#[]⟩ v=0:=by unfold kY;rw[hsl];rfl
   rw[e6,hz]
   simp[hi]
  ·have hi':0<i:=by omega
   by_cases hs:sle v a=true
   ·have e6:kY a v=6:=by unfold kY;rw[if_pos hs]
    rw[e6,hz]
    simp[hi',hs]
   ·have e6:kY a v=0:=by unfold kY;rw[if_neg hs]
    rw[e6,hz]
    simp[hs]
 ·rw[if_neg hz,if_neg (fun h=>hz h.1)]
def sM (A B:List PT):Prop:=∀ (out:List Nat) (X:List PT),sS out (A++X)=sS out (B++X)
theorem sM.refl (A:List PT):sM A A:=fun _ _=>rfl
theorem sM.trans {A B C:List PT} (h:sM A B) (k:sM B C):sM A C:=fun out X=>(h out X).trans (k out X)
theorem sM.ahead {A B:List PT} (h:sM A B):∀ C:List PT,sM (C++A) (C++B)
 | []=>h
 | p::r=>fun out X=>by
  have ih:=h.ahead r
  simp only[List.cons_append]
  unfold sS
  by_cases hw:p.wy≠0
  ·rw[if_pos hw,if_pos hw]
  ·rw[if_neg hw,if_neg hw]
   exact ih _ X
theorem sM.behind {A B:List PT} (h:sM A B) (C:List PT):sM (A++C) (B++C):=fun out X=>by
 rw[List.append_assoc,List.append_assoc]
 exact h out (C++X)
theorem sM.wrong {p:PT} (h:p.wy≠0) (a b:List PT):sM (p::a) (p::b):=fun out X=>by
 simp only[List.cons_append]
 unfold sS
 rw[if_pos h,if_pos h]
theorem sM.put {A B:List PT} (h:sM A B) (out:List Nat):sS out A=sS out B:=by
 have:=h out []
 simpa using this
theorem zx {α:Type} (r q:α→Nat) (x:α):fb [r,q] x=if r x=0 then q x else r x:=by
 simp only[fb]
 by_cases h:r x=0 <;> by_cases h2:q x=0 <;> simp[h,h2]
theorem pU (n:Nat) (M:Int) (z:Nat):lT 0 M z (n:Int)=if M<(n:Int) then z else 0:=by
 unfold lT
 by_cases h:M<(n:Int)
 ·rw[if_pos (.inr h),if_pos h]
 ·rw[if_neg (by omega),if_neg h]
theorem zE (n:Nat) (M:Int):fb (eA 32 [lT 0 M 4]) (n:Int)=if 32<n then 2 else if M<(n:Int) then 4 else 0:=by
 unfold eA
 rw[zx,pU,pU]
 by_cases h:32<n
 ·rw[if_pos (show(32:Int)<(n:Int) by omega),if_neg (by decide),if_pos h]
 ·rw[if_neg (show ¬ (32:Int)<(n:Int) by omega),if_pos rfl,if_neg h]
def us (op:Nat):Bool × Bool × Bool × Bool × Bool:=
 if op=1 then (false,false,true,true,false) else if op=2 then (true,true,false,true,false) else if op=3∨op=4∨op=6 then (true,true,false,false,false) else (true,false,false,false,decide (op=7))
theorem yj (op:Nat):eB op=[.bool (us op).1,.bool (us op).2.1,.bool (us op).2.2.1,.bool (us op).2.2.2.1,.bool (us op).2.2.2.2]:=by
 unfold eB us
 repeat' split
 all_goals rfl
theorem AN (n:Int) (rs:ByteArray):fb [fun v:ByteArray=>dj 0 64 v.size,Ce n] rs=if dj 0 64 rs.size=0 then (if n<(rs.size:Int) then 4 else 0) else dj 0 64 rs.size:=by
 rw[zx]
 unfold Ce
 rw[pU]
def Q.r2 (q:Q):Q × Nat:=q.gid.1.bV ir 4
def Q.r3 (q:Q):Q × Nat:=q.r2.1.bV xI 1
def Q.DF (q:Q):Q:=q.r3.1.ah (bI 1 7 5 q.r3.2)
def Q.r4 (q:Q):Q × Nat:=q.DF.dw cS (us q.r3.2).1
def Q.r5 (q:Q):Q × Nat:=q.r4.1.dw cg (us q.r3.2).2.1
def Q.Dv (q:Q):Q:=q.r5.1.ah (if q.r3.2=6∧1<q.r5.2 then 4 else 0)
def Q.r6 (q:Q):Q × Nat:=q.Dv.dw jr (us q.r3.2).2.2.1
def Q.r7 (q:Q):Q × Nat:=q.r6.1.dw gw (us q.r3.2).2.2.1
def Q.r8 (q:Q) (i:Nat):Q × List cA × ByteArray:=(q.r7.1.bu (us q.r3.2).2.2.2.1).dT (decide (q.r3.2=2)) i
def Q.r9 (q:Q) (i:Nat):Q × List Nat:=(q.r8 i).1.many eh 0 64
def Q.sQ (q:Q) (i:Nat):Q:=(q.r9 i).1.ah (if (us q.r3.2).2.2.2.2=false∧0<(q.r9 i).2.length then 4 else 0)
def Q.gK (q:Q) (i:Nat):ed:=⟨q.gid.2.1,q.gid.2.2,q.r2.2,q.r3.2,q.r4.2,q.r5.2,q.r6.2,q.r7.2,(q.r8 i).2.1,strOf (q.r9 i).2⟩
def Q.sP (q:Q) (i:Nat):Prop:=i≤(q.r7.1.bT ak 32).2∧(i=(q.r7.1.bT ak 32).2∨(q.r8 i).1.f≠none)
def sN (w W W':World):Prop:=Fr (fun k=>k<w.heap.size+4) W W'
theorem sN.refl (w W:World):sN w W W:=Fr.refl _ _
theorem sN.call {w W W1 W2:World} (h:sN w W W1) (hf:Fr (fun _=>False) W1 W2):sN w W W2:=h.trans hf (fun _ _ h=>h.elim)
theorem sN.aU {w W W1 W2:World} (h:sN w W W1) (hf:Fr (fun k=>k=w.heap.size) W1 W2):sN w W W2:=h.trans hf (fun k _ e=>by show k<w.heap.size+4;omega)
theorem sN.bL {w W W1:World} (h:sN w W W1) (i:Nat) (v:Value):sN w W (W1.setCell ⟨w.heap.size+1+1+1,i,none⟩ v):=h.trans ((Fr.refl (fun k=>k=w.heap.size+1+1+1) W1).setCell (p:=⟨w.heap.size+1+1+1,i,none⟩) (.inl rfl) v) (fun k _ e=>by show k<w.heap.size+4;omega)
theorem sN.ya {w W W1:World} (h:sN w W W1) {b:Nat} {o:Obj} (hb:W.heap[b]?=some o) (h4:w.heap.size+4≤b):W1.heap[b]?=some o:=(h.block b ((by rcases Nat.lt_or_ge b W.heap.size with h'|h';exact h';rw[Array.getElem?_eq_none h'] at hb;cases hb)) (fun e=>by omega)).trans hb
theorem Tryz.fS:(Tryz.prog.info? 30).map (·.size)=some 10:=by kernel_rfl
def lj:List Value:=[.int .u32 0,.int .u32 0,.int .u32 0,.int .u8 0,.int .u32 0,.int .u32 0,.int .u32 0,.int .u32 0,.slice none 0 0,.string ⟨#[]⟩]
theorem Tryz.A4:(Tryz.prog.info? 177).map (·.size)=some 5:=by kernel_rfl
theorem BX.dc {w W W':World} {T:TypeId} {R Z V:List Value} {S:Nat→Prop} (h:BX w W T R Z V) (hf:Fr S W W') (hS:∀ k,S k→w.heap.size+4≤k):BX w W' T R Z V:=by
 have hl:=h.lt
 exact⟨(hf.block _ (by omega) (fun h=>by have:=hS _ h;omega)).trans h.b0,(hf.block _ (by omega) (fun h=>by have:=hS _ h;omega)).trans h.b1,(hf.block _ (by omega) (fun h=>by have:=hS _ h;omega)).trans h.b2,(hf.block _ (by omega) (fun h=>by have:=hS _ h;omega)).trans h.b3,h.fr.trans hf (fun k hk e=>by have:=hS _ e;omega),h.n⟩
theorem D2 {op ve:Nat} (h6:op=6):(if decide ((ve:Int) > 1)=true then 4 else 0)=(if op=6∧1<ve then 4 else 0):=by
 by_cases hz:1<ve
 ·rw[if_pos (show decide ((ve:Int) > 1)=true from decide_eq_true (by omega)),if_pos ⟨h6,hz⟩]
 ·rw[if_neg (show ¬ decide ((ve:Int) > 1)=true by simp;omega),if_neg (fun h=>hz h.2)]
theorem DR {op ve:Nat} (h6:¬ op=6):(if false=true then 4 else 0)=(if op=6∧1<ve then 4 else 0):=by
 rw[if_neg (show ¬ false=true by decide),if_neg (fun h=>h6 h.1)]
theorem eX {w:World} {xo:Option Addr} {len xc:Nat} {all:List Nat} {R:List Value} {q:Q} (A:j9 w xo len xc all) (h:QS q xo len xc all R) :
  Calls Tryz.prog 59 #[.agg R.toArray] w fun e w'=>∃ R' v i,e = .returned (.tuple #[.agg R'.toArray,.agg ((q.gK i).aJ v)])∧q.sP i∧QS (q.sQ i) xo len xc all R'∧dy w' w.heap.size v (q.r8 i).2.1 (fun _=>False)∧Fr (fun _=>False) w w':=by
 have HA:=ae A
 have HQ:=ae h
 obtain⟨s1,e1⟩:∃ x,q.gid=x:=⟨_,rfl⟩
 obtain⟨s2,e2⟩:∃ x,q.r2=x:=⟨_,rfl⟩
 obtain⟨s3,e3⟩:∃ x,q.r3=x:=⟨_,rfl⟩
 obtain⟨q3,e3f⟩:∃ x,q.DF=x:=⟨_,rfl⟩
 obtain⟨op,eop⟩:∃ x,s3.2=x:=⟨_,rfl⟩
 have hac:s2.2<4294967296:=by rw[← e2];exact Q.go_lt _ 4 0
 have hop:op<256:=by rw[← eop,← e3];exact Q.go_lt _ 1 0
 have g2:s1.1.bV ir 4=s2:=by rw[← e1,← e2];rfl
 have g3:s2.1.bV xI 1=s3:=by rw[← e2,← e3];rfl
 have g3f:s3.1.ah (bI 1 7 5 op)=q3:=by rw[← eop,← e3f,← e3];rfl
 obtain⟨u1,u2,u3,u4,u5,hu⟩:∃ u1 u2 u3 u4 u5,us op=(u1,u2,u3,u4,u5):=⟨_,_,_,_,_,rfl⟩
 have hu':us q.r3.2=(u1,u2,u3,u4,u5):=by rw[e3,eop,hu]
 obtain⟨s4,e4⟩:∃ x,q.r4=x:=⟨_,rfl⟩
 obtain⟨s5,e5⟩:∃ x,q.r5=x:=⟨_,rfl⟩
 obtain⟨q5,e5f⟩:∃ x,q.Dv=x:=⟨_,rfl⟩
 obtain⟨s6,e6⟩:∃ x,q.r6=x:=⟨_,rfl⟩
 obtain⟨s7,e7⟩:∃ x,q.r7=x:=⟨_,rfl⟩
 have g4:q3.dw cS u1=s4:=by rw[← e3f,← e4];unfold Q.r4;rw[hu']
 have g5:s4.1.dw cg u2=s5:=by rw[← e4,← e5];unfold Q.r5;rw[hu']
 obtain⟨ve,eve⟩:∃ x,s5.2=x:=⟨_,rfl⟩
 have g5f:s5.1.ah (if op=6∧1<ve then 4 else 0)=q5:=by rw[← eve,← e5f];unfold Q.Dv;rw[e3,eop,e5]
 have g6:q5.dw jr u3=s6:=by rw[← e5f,← e6];unfold Q.r6;rw[hu']
 have g7:s6.1.dw gw u3=s7:=by rw[← e6,← e7];unfold Q.r7;rw[hu']
 have g8:∀ i,(s7.1.bu u4).dT (decide (op=2)) i=q.r8 i:=fun i=>by rw[← e7];unfold Q.r8;rw[hu',e3,eop]
 have g9:∀ i,(q.r8 i).1.many eh 0 64=q.r9 i:=fun i=>rfl
 have g9f:∀ i,(q.r9 i).1.ah (if u5=false∧0<(q.r9 i).2.length then 4 else 0)=q.sQ i:=fun i=>by unfold Q.sQ;rw[hu']
 have hgu:=fun wx=>vX op wx
 rw[yj,hu] at hgu
 have HU:=ae hgu
 have HE:=ae (And.intro e1 (And.intro e2 (And.intro e3 (And.intro e3f eop))))
 have HE2:=ae (And.intro e4 (And.intro e5 (And.intro e6 e7)))
 have HG:=ae (And.intro g2 (And.intro g3 g3f))
 have HG2:=ae (And.intro g4 (And.intro g5 (And.intro eve (And.intro g5f (And.intro g6 (And.intro g7 (And.intro g8 (And.intro g9 g9f))))))))
 clear e1 e2 e3 e3f e4 e5 e5f e6 e7 eve g2 g3 g3f g4 g5 g5f g6 g7 g8 g9 g9f hu hu' hgu
 obtain⟨ha,ho,last,rfl,hla⟩:=h
 rw[ei]
 have HB0:=ae (BX.start w 30 (q.rv xo len xc last).toList lj rfl)
 unfold Q.rv at HB0 ⊢
 clear ha ho hla A
 go_enter Tryz.func59,Tryz.ntmps59
 go_wp2_with fail
 refine(jM (aa HA) (u0 _ _ _ _ _) (aa HQ)).mono ?_
 rintro e wa1 ⟨Ra1,rfl,hQa,hfa⟩
 rw[(aa HE).1] at hQa ⊢
 obtain⟨wb1,hst,hBb,hfb⟩:=((aa HB0).aD hfa).aU hQa
 have HST:=ae hst
 have HB1b:=ae hBb
 have HQ1:=ae hQa
 clear hst hBb hfb hfa hQa HB0 HQ   
 have r0:=(aa HB1b).cell 0 _ rfl
 have z0:=(aa HB1b).ep 0
 have l0:=ab r0
 have r1:=(aa HB1b).cell 1 _ rfl
 have z1:=(aa HB1b).ep 1
 have l1:=ab r1
 go_upto_region 3 with (first|((with_reducible refine aq ?_);refine ag rfl 120 (.tmp 1) (.tmp 11) rfl _ _ rfl rfl (aa HST) ?_))
 clear HST
 have HB2:Hid (BX w _ 30 Ra1 lj [.int .u32 (s1.2.1:Nat),.int .u32 (s1.2.2:Nat),.int .u32 0,.int .u8 0,.int .u32 0,.int .u32 0,.int .u32 0,.int .u32 0,.slice none 0 0,.string ⟨#[]⟩]):=ae (((aa HB1b).bL 0 (.int .u32 (s1.2.1:Nat))).bL 1 (.int .u32 (s1.2.2:Nat)))
 clear r0 z0 l0 r1 z1 l1
 clear HB1b 
 go_wp2_with (first|((with_reducible refine av 15 ?_);refine wpList_load_mid rfl 120 (.tmp 1) rfl w.heap.size 0 rfl _ _ (af (aa HB2).b0) Tryz.underlying120 rfl (by rw[(aa HB2).n];exact Tryz.al) ?_))
 refine(cG (aa HA) (aa HB2).fr (aa HQ1) ir 4 (.inr (.inl rfl))).mono ?_
 rintro e wa3 ⟨Ra3,rfl,hQa,hfa⟩
 rw[(aa HG).1] at hQa ⊢
 obtain⟨wb3,hst,hBb,hfb⟩:=((aa HB2).aD hfa).aU hQa
 have hw:=dq hac
 have HST:=ae hst
 have HB3b:=ae hBb
 have HQ3:=ae hQa
 clear hst hBb hfb hfa hQa HB2 HQ1   
 have r2:=(aa HB3b).cell 2 _ rfl
 have z2:=(aa HB3b).ep 2
 have l2:=ab r2
 go_upto_region 5 with (first|((with_reducible refine aq ?_);refine ag rfl 120 (.tmp 1) (.tmp 17) rfl _ _ rfl rfl (aa HST) ?_))
 clear HST
 have HB4:Hid (BX w _ 30 Ra3 lj [.int .u32 (s1.2.1:Nat),.int .u32 (s1.2.2:Nat),.int .u32 (s2.2:Nat),.int .u8 0,.int .u32 0,.int .u32 0,.int .u32 0,.int .u32 0,.slice none 0 0,.string ⟨#[]⟩]):=ae ((aa HB3b).bL 2 (.int .u32 (s2.2:Nat)))
 clear r2 z2 l2
 clear HB3b 
 clear hw hac
 go_wp2_with (first|((with_reducible refine av 23 ?_);refine wpList_load_mid rfl 120 (.tmp 1) rfl w.heap.size 0 rfl _ _ (af (aa HB4).b0) Tryz.underlying120 rfl (by rw[(aa HB4).n];exact Tryz.al) ?_))
 refine(cG (aa HA) (aa HB4).fr (aa HQ3) xI 1 (.inl rfl)).mono ?_
 rintro e wa5 ⟨Ra5,rfl,hQa,hfa⟩
 rw[(aa HG).2.1] at hQa ⊢
 rw[eop]
 obtain⟨wb5,hst,hBb,hfb⟩:=((aa HB4).aD hfa).aU hQa
 have HST:=ae hst
 have HB5b:=ae hBb
 have HQ5:=ae hQa
 clear hst hBb hfb hfa hQa HB4 HQ3   
 go_upto_region 6 with (first|((with_reducible refine aq ?_);refine ag rfl 120 (.tmp 1) (.tmp 25) rfl _ _ rfl rfl (aa HST) ?_))
 clear HST
 go_cut [] from 27 to 34 (fun wx=>∃ R',QS q3 xo len xc all R'∧BX w wx 30 R' lj [.int .u32 (s1.2.1:Nat),.int .u32 (s1.2.2:Nat),.int .u32 (s2.2:Nat),.int .u8 0,.int .u32 0,.int .u32 0,.int .u32 0,.int .u32 0,.slice none 0 0,.string ⟨#[]⟩])
 case first =>
  have hfk:∀ so,(if so=true then 5 else 0)=bI 1 7 5 op→∀ w',Calls Tryz.prog 99 #[.agg Ra5.toArray,.bool so,.int .i64 (5:Nat)] w' fun e w''=>∃ R',e = .returned (.agg R'.toArray)∧QS q3 xo len xc all R'∧Fr (fun _=>False) w' w'':=fun so h w'=>by
   have hb:=dR (w':=w') (aa HA).hl (aa HQ5) so 5 _ (by decide) (by decide) h
   rw[(aa HG).2.2] at hb
   exact hb
  have HK:=ae hfk
  clear hfk
  rcases(by omega:op<1∨7<op∨(1≤op∧op≤7)) with h3|h3|⟨h3,h4⟩
  ·have c1:decide ((op:Int)<1)=true:=decide_eq_true (by omega)
   have c2:decide (7<(op:Int))=false:=decide_eq_false (by omega)
   have c3:decide ((op:Int) > 7)=false:=decide_eq_false (by omega)
   go_wp2_with (first|((with_reducible refine av 27 ?_);refine wpList_load_mid rfl 120 (.tmp 1) rfl w.heap.size 0 rfl _ _ (af (aa HB5b).b0) Tryz.underlying120 rfl (by rw[(aa HB5b).n];exact Tryz.al) ?_))
   refine((aa HK) _ (by simp[bI];omega) _).mono ?_
   rintro e wg ⟨Rg,rfl,hQg,hfg⟩
   obtain⟨wh,hst,hBh,_⟩:=((aa HB5b).aD hfg).aU hQg
   have HST:=ae hst
   have HX:=ae (And.intro hQg hBh)
   clear hst hQg hBh hfg
   go_wp2_with (first|((with_reducible refine aq ?_);refine ag rfl 120 (.tmp 1) (.tmp 34) rfl _ _ rfl rfl (aa HST) ?_))
   go_meet
   case rel=>exact⟨Rg,(aa HX).1,(aa HX).2⟩
  ·have c1:decide ((op:Int)<1)=false:=decide_eq_false (by omega)
   have c2:decide (7<(op:Int))=true:=decide_eq_true (by omega)
   have c3:decide ((op:Int) > 7)=true:=decide_eq_true (by omega)
   go_wp2_with (first|((with_reducible refine av 27 ?_);refine wpList_load_mid rfl 120 (.tmp 1) rfl w.heap.size 0 rfl _ _ (af (aa HB5b).b0) Tryz.underlying120 rfl (by rw[(aa HB5b).n];exact Tryz.al) ?_))
   refine((aa HK) _ (by simp[bI];omega) _).mono ?_
   rintro e wg ⟨Rg,rfl,hQg,hfg⟩
   obtain⟨wh,hst,hBh,_⟩:=((aa HB5b).aD hfg).aU hQg
   have HST:=ae hst
   have HX:=ae (And.intro hQg hBh)
   clear hst hQg hBh hfg
   go_wp2_with (first|((with_reducible refine aq ?_);refine ag rfl 120 (.tmp 1) (.tmp 34) rfl _ _ rfl rfl (aa HST) ?_))
   go_meet
   case rel=>exact⟨Rg,(aa HX).1,(aa HX).2⟩
  ·have c1:decide ((op:Int)<1)=false:=decide_eq_false (by omega)
   have c2:decide (7<(op:Int))=false:=decide_eq_false (by omega)
   have c3:decide ((op:Int) > 7)=false:=decide_eq_false (by omega)
   go_wp2_with (first|((with_reducible refine av 27 ?_);refine wpList_load_mid rfl 120 (.tmp 1) rfl w.heap.size 0 rfl _ _ (af (aa HB5b).b0) Tryz.underlying120 rfl (by rw[(aa HB5b).n];exact Tryz.al) ?_))
   refine((aa HK) _ (by simp[bI];omega) _).mono ?_
   rintro e wg ⟨Rg,rfl,hQg,hfg⟩
   obtain⟨wh,hst,hBh,_⟩:=((aa HB5b).aD hfg).aU hQg
   have HST:=ae hst
   have HX:=ae (And.intro hQg hBh)
   clear hst hQg hBh hfg
   go_wp2_with (first|((with_reducible refine aq ?_);refine ag rfl 120 (.tmp 1) (.tmp 34) rfl _ _ rfl rfl (aa HST) ?_))
   go_meet
   case rel=>exact⟨Rg,(aa HX).1,(aa HX).2⟩
 case rest =>
  obtain⟨Rc,hQc,hBc⟩:=hcut
  rename World=>wc
  clear HB5b HQ5
  have HBc:=ae hBc
  have HQc:=ae hQc
  clear hQc hBc
  have hw:=pZ hop
  have r3:=(aa HBc).cell 3 _ rfl
  have z3:=(aa HBc).ep 3
  have l3:=ab r3
  go_upto_region 8 with fail
  clear hw
  have HB6:Hid (BX w _ 30 Rc lj [.int .u32 (s1.2.1:Nat),.int .u32 (s1.2.2:Nat),.int .u32 (s2.2:Nat),.int .u8 (op:Nat),.int .u32 0,.int .u32 0,.int .u32 0,.int .u32 0,.slice none 0 0,.string ⟨#[]⟩]):=ae ((aa HBc).bL 3 (.int .u8 (op:Nat)))
  clear r3 z3 l3
  clear HBc 
  have r3:=(aa HB6).cell 3 _ rfl
  have z3:=(aa HB6).ep 3
  have l3:=ab r3
  go_wp2_with fail
  refine((aa HU) _).mono ?_
  rintro e wu ⟨rfl,hfu⟩
  have hBu:=(aa HB6).aD hfu
  have hlu:=hBu.lt
  obtain⟨wv,hst,hbv,hfv⟩:=bA (P:=Tryz.prog) (ty:=177) [.bool false,.bool false,.bool false,.bool false,.bool false] [.bool u1,.bool u2,.bool u3,.bool u4,.bool u5] (heap_alloc_new wu (.cells #[.bool false,.bool false,.bool false,.bool false,.bool false] 177)) rfl Tryz.A4 (by simp[Value.oneCell'])
  have HBv:=ae ((hBu.aD ((Fr.refl _ wu).alloc (.cells #[.bool false,.bool false,.bool false,.bool false,.bool false] 177))).dc hfv (fun k hk=>by omega))
  have HUb:=ae (fun W (hf:sN w wv W)=>hf.ya hbv (by omega))
  have HF0:=ae (sN.refl w wv)
  have HST:=ae hst
  clear hBu hlu hst hbv hfv hfu HU HB6 r3 z3 l3
  go_upto_region 9 with (first|((with_reducible refine aq ?_);refine ag rfl 177 (.tmp 6) (.tmp 40) rfl _ _ rfl rfl (aa HST) ?_))
  clear HST
  have q0:World.cell? _ ⟨wu.heap.size,0,none⟩=some (.bool u1):=af ((aa HUb) _ (aa HF0)) 0 _ rfl
  go_wp2_with (first|((with_reducible refine av 42 ?_);refine wpList_load_mid rfl 120 (.tmp 1) rfl w.heap.size 0 rfl _ _ (af (aa HBv).b0) Tryz.underlying120 rfl (by rw[(aa HBv).n];exact Tryz.al) ?_))
  refine(gx (aa HA) (aa HBv).fr (aa HQc) cS u1).mono ?_
  rintro e wa7 ⟨Ra7,rfl,hQa,hfa⟩
  rw[(aa HG2).1] at hQa ⊢
  obtain⟨wb7,hst,hBb,hfb⟩:=((aa HBv).aD hfa).aU hQa
  have HF7:=ae (((aa HF0).call hfa).aU hfb)
  have HST:=ae hst
  have HB7b:=ae hBb
  have HQ7:=ae hQa
  clear hst hBb hfb hfa hQa HBv HQc HF0  q0
  have r4:=(aa HB7b).cell 4 _ rfl
  have z4:=(aa HB7b).ep 4
  have l4:=ab r4
  go_upto_region 10 with (first|((with_reducible refine aq ?_);refine ag rfl 120 (.tmp 1) (.tmp 46) rfl _ _ rfl rfl (aa HST) ?_))
  clear HST
  have HB8:Hid (BX w _ 30 Ra7 lj [.int .u32 (s1.2.1:Nat),.int .u32 (s1.2.2:Nat),.int .u32 (s2.2:Nat),.int .u8 (op:Nat),.int .u32 (s4.2:Nat),.int .u32 0,.int .u32 0,.int .u32 0,.slice none 0 0,.string ⟨#[]⟩]):=ae ((aa HB7b).bL 4 (.int .u32 (s4.2:Nat)))
  have HF8:=ae ((aa HF7).bL 4 (.int .u32 (s4.2:Nat)))
  clear r4 z4 l4
  clear HB7b HF7
  have q1:World.cell? _ ⟨wu.heap.size,1,none⟩=some (.bool u2):=af ((aa HUb) _ (aa HF8)) 1 _ rfl
  go_wp2_with (first|((with_reducible refine av 50 ?_);refine wpList_load_mid rfl 120 (.tmp 1) rfl w.heap.size 0 rfl _ _ (af (aa HB8).b0) Tryz.underlying120 rfl (by rw[(aa HB8).n];exact Tryz.al) ?_))
  refine(gx (aa HA) (aa HB8).fr (aa HQ7) cg u2).mono ?_
  rintro e wa9 ⟨Ra9,rfl,hQa,hfa⟩
  rw[(aa HG2).2.1] at hQa ⊢
  rw[(aa HG2).2.2.1]
  obtain⟨wb9,hst,hBb,hfb⟩:=((aa HB8).aD hfa).aU hQa
  have HF9:=ae (((aa HF8).call hfa).aU hfb)
  have HST:=ae hst
  have HB9b:=ae hBb
  have HQ9:=ae hQa
  clear hst hBb hfb hfa hQa HB8 HQ7 HF8  q1
  have r5:=(aa HB9b).cell 5 _ rfl
  have z5:=(aa HB9b).ep 5
  have l5:=ab r5
  go_upto_region 11 with (first|((with_reducible refine aq ?_);refine ag rfl 120 (.tmp 1) (.tmp 54) rfl _ _ rfl rfl (aa HST) ?_))
  clear HST
  have HB10:Hid (BX w _ 30 Ra9 lj [.int .u32 (s1.2.1:Nat),.int .u32 (s1.2.2:Nat),.int .u32 (s2.2:Nat),.int .u8 (op:Nat),.int .u32 (s4.2:Nat),.int .u32 (ve:Nat),.int .u32 0,.int .u32 0,.slice none 0 0,.string ⟨#[]⟩]):=ae ((aa HB9b).bL 5 (.int .u32 (ve:Nat)))
  have HF10:=ae ((aa HF9).bL 5 (.int .u32 (ve:Nat)))
  clear r5 z5 l5
  clear HB9b HF9
  go_cut [] from 57 to 66 (fun wx=>∃ R',QS q5 xo len xc all R'∧BX w wx 30 R' lj [.int .u32 (s1.2.1:Nat),.int .u32 (s1.2.2:Nat),.int .u32 (s2.2:Nat),.int .u8 (op:Nat),.int .u32 (s4.2:Nat),.int .u32 (ve:Nat),.int .u32 0,.int .u32 0,.slice none 0 0,.string ⟨#[]⟩]∧sN w wv wx)
  case first =>
   have hfk:∀ so,(if so=true then 4 else 0)=(if op=6∧1<ve then 4 else 0)→∀ w',Calls Tryz.prog 99 #[.agg Ra9.toArray,.bool so,.int .i64 (4:Nat)] w' fun e w''=>∃ R',e = .returned (.agg R'.toArray)∧QS q5 xo len xc all R'∧Fr (fun _=>False) w' w'':=fun so h w'=>by
    have hb:=dR (w':=w') (aa HA).hl (aa HQ9) so 4 _ (by decide) (by decide) h
    rw[(aa HG2).2.2.2.1] at hb
    exact hb
   have HK:=ae hfk
   clear hfk
   have r3:=(aa HB10).cell 3 _ rfl
   have z3:=(aa HB10).ep 3
   have l3:=ab r3
   have r5:=(aa HB10).cell 5 _ rfl
   have z5:=(aa HB10).ep 5
   have l5:=ab r5
   by_cases h6:op=6
   ·have e6:((op:Int) == 6)=true:=by simp;omega
    have H6:=ae h6
    clear h6
    go_wp2_with (first|((with_reducible refine av 57 ?_);refine wpList_load_mid rfl 120 (.tmp 1) rfl w.heap.size 0 rfl _ _ (af (aa HB10).b0) Tryz.underlying120 rfl (by rw[(aa HB10).n];exact Tryz.al) ?_))
    refine((aa HK) _ (D2 (aa H6)) _).mono ?_
    rintro e wg ⟨Rg,rfl,hQg,hfg⟩
    obtain⟨wh,hst,hBh,hfh⟩:=((aa HB10).aD hfg).aU hQg
    have HST:=ae hst
    have HX:=ae (And.intro hQg (And.intro hBh (((aa HF10).call hfg).aU hfh)))
    clear hst hQg hBh hfg hfh
    go_wp2_with (first|((with_reducible refine aq ?_);refine ag rfl 120 (.tmp 1) (.tmp 66) rfl _ _ rfl rfl (aa HST) ?_))
    go_meet
    case rel=>exact⟨Rg,(aa HX).1,(aa HX).2.1,(aa HX).2.2⟩
   ·have e6:((op:Int) == 6)=false:=by simp;omega
    have H6:=ae h6
    clear h6
    go_wp2_with (first|((with_reducible refine av 57 ?_);refine wpList_load_mid rfl 120 (.tmp 1) rfl w.heap.size 0 rfl _ _ (af (aa HB10).b0) Tryz.underlying120 rfl (by rw[(aa HB10).n];exact Tryz.al) ?_))
    refine((aa HK) _ (DR (aa H6)) _).mono ?_
    rintro e wg ⟨Rg,rfl,hQg,hfg⟩
    obtain⟨wh,hst,hBh,hfh⟩:=((aa HB10).aD hfg).aU hQg
    have HST:=ae hst
    have HX:=ae (And.intro hQg (And.intro hBh (((aa HF10).call hfg).aU hfh)))
    clear hst hQg hBh hfg hfh
    go_wp2_with (first|((with_reducible refine aq ?_);refine ag rfl 120 (.tmp 1) (.tmp 66) rfl _ _ rfl rfl (aa HST) ?_))
    go_meet
    case rel=>exact⟨Rg,(aa HX).1,(aa HX).2.1,(aa HX).2.2⟩
  case rest =>
   obtain⟨Rd,hQd,hBd,hFd⟩:=hcut
   rename World=>wd
   clear HB10 HQ9 HF10
   have HBd:=ae hBd
   have HQd:=ae hQd
   have HFd:=ae hFd
   clear hQd hBd hFd
   have q2:World.cell? _ ⟨wu.heap.size,2,none⟩=some (.bool u3):=af ((aa HUb) _ (aa HFd)) 2 _ rfl
   go_wp2_with (first|((with_reducible refine av 68 ?_);refine wpList_load_mid rfl 120 (.tmp 1) rfl w.heap.size 0 rfl _ _ (af (aa HBd).b0) Tryz.underlying120 rfl (by rw[(aa HBd).n];exact Tryz.al) ?_))
   refine(gx (aa HA) (aa HBd).fr (aa HQd) jr u3).mono ?_
   rintro e wa11 ⟨Ra11,rfl,hQa,hfa⟩
   rw[(aa HG2).2.2.2.2.1] at hQa ⊢
   obtain⟨wb11,hst,hBb,hfb⟩:=((aa HBd).aD hfa).aU hQa
   have HF11:=ae (((aa HFd).call hfa).aU hfb)
   have HST:=ae hst
   have HB11b:=ae hBb
   have HQ11:=ae hQa
   clear hst hBb hfb hfa hQa HBd HQd HFd  q2
   have r6:=(aa HB11b).cell 6 _ rfl
   have z6:=(aa HB11b).ep 6
   have l6:=ab r6
   go_upto_region 13 with (first|((with_reducible refine aq ?_);refine ag rfl 120 (.tmp 1) (.tmp 72) rfl _ _ rfl rfl (aa HST) ?_))
   clear HST
   have HB12:Hid (BX w _ 30 Ra11 lj [.int .u32 (s1.2.1:Nat),.int .u32 (s1.2.2:Nat),.int .u32 (s2.2:Nat),.int .u8 (op:Nat),.int .u32 (s4.2:Nat),.int .u32 (ve:Nat),.int .u32 (s6.2:Nat),.int .u32 0,.slice none 0 0,.string ⟨#[]⟩]):=ae ((aa HB11b).bL 6 (.int .u32 (s6.2:Nat)))
   have HF12:=ae ((aa HF11).bL 6 (.int .u32 (s6.2:Nat)))
   clear r6 z6 l6
   clear HB11b HF11
   have q2:World.cell? _ ⟨wu.heap.size,2,none⟩=some (.bool u3):=af ((aa HUb) _ (aa HF12)) 2 _ rfl
   go_wp2_with (first|((with_reducible refine av 76 ?_);refine wpList_load_mid rfl 120 (.tmp 1) rfl w.heap.size 0 rfl _ _ (af (aa HB12).b0) Tryz.underlying120 rfl (by rw[(aa HB12).n];exact Tryz.al) ?_))
   refine(gx (aa HA) (aa HB12).fr (aa HQ11) gw u3).mono ?_
   rintro e wa13 ⟨Ra13,rfl,hQa,hfa⟩
   rw[(aa HG2).2.2.2.2.2.1] at hQa ⊢
   obtain⟨wb13,hst,hBb,hfb⟩:=((aa HB12).aD hfa).aU hQa
   have HF13:=ae (((aa HF12).call hfa).aU hfb)
   have HST:=ae hst
   have HB13b:=ae hBb
   have HQ13:=ae hQa
   clear hst hBb hfb hfa hQa HB12 HQ11 HF12  q2
   have r7:=(aa HB13b).cell 7 _ rfl
   have z7:=(aa HB13b).ep 7
   have l7:=ab r7
   go_upto_region 14 with (first|((with_reducible refine aq ?_);refine ag rfl 120 (.tmp 1) (.tmp 80) rfl _ _ rfl rfl (aa HST) ?_))
   clear HST
   have HB14:Hid (BX w _ 30 Ra13 lj [.int .u32 (s1.2.1:Nat),.int .u32 (s1.2.2:Nat),.int .u32 (s2.2:Nat),.int .u8 (op:Nat),.int .u32 (s4.2:Nat),.int .u32 (ve:Nat),.int .u32 (s6.2:Nat),.int .u32 (s7.2:Nat),.slice none 0 0,.string ⟨#[]⟩]):=ae ((aa HB13b).bL 7 (.int .u32 (s7.2:Nat)))
   have HF14:=ae ((aa HF13).bL 7 (.int .u32 (s7.2:Nat)))
   clear r7 z7 l7
   clear HB13b HF13
   have e2:((op:Int) == 2)=decide (op=2):=by by_cases h0:op=2 <;> simp[h0];try omega
   have q3:World.cell? _ ⟨wu.heap.size,3,none⟩=some (.bool u4):=af ((aa HUb) _ (aa HF14)) 3 _ rfl
   have r3:=(aa HB14).cell 3 _ rfl
   have z3:=(aa HB14).ep 3
   have l3:=ab r3
   go_wp2_with (first|((with_reducible refine av 84 ?_);refine wpList_load_mid rfl 120 (.tmp 1) rfl w.heap.size 0 rfl _ _ (af (aa HB14).b0) Tryz.underlying120 rfl (by rw[(aa HB14).n];exact Tryz.al) ?_))
   refine(ig ((aa HA).aD (aa HB14).fr) (aa HQ13) u4 (decide (op=2))).mono ?_
   rintro e wa15 ⟨Ra15,fv,fi,rfl,hi1,hi2,hQa,hOa,hfa⟩
   rw[(aa HG2).2.2.2.2.2.2.1] at hQa hOa hi2
   obtain⟨fo,fc,rfl⟩:=cU hOa.row
   have hlo:=(aa HB14).lt
   have hOa:=hOa.base (base':=w.heap.size+4) (by omega)
   obtain⟨wb15,hst,hBb,hfb⟩:=((aa HB14).aD hfa).aU hQa
   have HF15:=ae (((aa HF14).call hfa).aU hfb)
   have HO1:=ae (hOa.dc hfb (fun k hk=>.inl (by omega)))
   have HI:=ae (And.intro hi1 hi2)
   clear hi1 hi2 hlo
   have HST:=ae hst
   have HB15b:=ae hBb
   have HQ15:=ae hQa
   clear hst hBb hfb hfa hQa HB14 HQ13 HF14  q3 hOa e2 r3 z3 l3
   have r8:=(aa HB15b).cell 8 _ rfl
   have z8:=(aa HB15b).ep 8
   have l8:=ab r8
   go_upto_region 15 with (first|((with_reducible refine aq ?_);refine ag rfl 120 (.tmp 1) (.tmp 91) rfl _ _ rfl rfl (aa HST) ?_))
   clear HST
   have HB16:Hid (BX w _ 30 Ra15 lj [.int .u32 (s1.2.1:Nat),.int .u32 (s1.2.2:Nat),.int .u32 (s2.2:Nat),.int .u8 (op:Nat),.int .u32 (s4.2:Nat),.int .u32 (ve:Nat),.int .u32 (s6.2:Nat),.int .u32 (s7.2:Nat),.slice fo (q.r8 fi).2.1.length fc,.string ⟨#[]⟩]):=ae ((aa HB15b).bL 8 (.slice fo (q.r8 fi).2.1.length fc))
   have HF16:=ae ((aa HF15).bL 8 (.slice fo (q.r8 fi).2.1.length fc))
   have HO16:=ae ((aa HO1).dc (S:=fun k=>k=w.heap.size+1+1+1) (((Fr.refl (fun k=>k=w.heap.size+1+1+1) _).setCell (p:=⟨w.heap.size+1+1+1,8,none⟩) (.inl rfl) (.slice fo (q.r8 fi).2.1.length fc))) (fun k hk=>.inl (by omega)))
   clear r8 z8 l8 HB15b HF15 HO1
   obtain⟨s9,e9⟩:∃ x,q.r9 fi=x:=⟨_,rfl⟩
   obtain⟨rs,ers⟩:∃ x,strOf s9.2=x:=⟨_,rfl⟩
   have H9:=ae (And.intro e9 ers)
   clear e9 ers
   go_wp2_with (first|((with_reducible refine av 95 ?_);refine wpList_load_mid rfl 120 (.tmp 1) rfl w.heap.size 0 rfl _ _ (af (aa HB16).b0) Tryz.underlying120 rfl (by rw[(aa HB16).n];exact Tryz.al) ?_))
   refine(gB (aa HA) (aa HB16).fr (aa HQ15) eh 0 64 (by decide)).mono ?_
   rintro e wa17 ⟨Ra17,sx,sn,sc,rfl,hQa,hsa,hna,hfa⟩
   rw[(aa HG2).2.2.2.2.2.2.2.1,(aa H9).1] at hQa hsa
   have hlz:=(aa HB16).lt
   have hsn:sn=s9.2.length:=by obtain⟨_,_,e⟩:=hsa.form;cases e;rfl
   have HSN:=ae hsn
   clear hsn
   obtain⟨wb17,hst,hBb,hfb⟩:=((aa HB16).aD hfa).aU hQa
   have HF17:=ae (((aa HF16).call hfa).aU hfb)
   have HO17:=ae (((aa HO16).dc hfa (fun _ h=>h.elim)).dc hfb (fun k hk=>.inl (by omega)))
   have hsb:=hsa.fr hfb (fun g o m c e hx=>by have:=hna g o m c e;omega)
   have hcv:=iz _ _ _ hsb
   rw[(aa H9).2] at hcv
   have HST:=ae hst
   have HB17b:=ae hBb
   have HQ17:=ae hQa
   clear hst hBb hfb hfa hQa HB16 HQ15 HF16 HO16 hsa hna hsb hlz
   have r9:=(aa HB17b).cell 9 _ rfl
   have z9:=(aa HB17b).ep 9
   have l9:=ab r9
   go_upto_region 17 with (first|((with_reducible refine aq ?_);refine ag rfl 120 (.tmp 1) (.tmp 97) rfl _ _ rfl rfl (aa HST) ?_))
   clear HST
   have HB18:Hid (BX w _ 30 Ra17 lj [.int .u32 (s1.2.1:Nat),.int .u32 (s1.2.2:Nat),.int .u32 (s2.2:Nat),.int .u8 (op:Nat),.int .u32 (s4.2:Nat),.int .u32 (ve:Nat),.int .u32 (s6.2:Nat),.int .u32 (s7.2:Nat),.slice fo (q.r8 fi).2.1.length fc,.string rs]):=ae ((aa HB17b).bL 9 (.string rs))
   have HF18:=ae ((aa HF17).bL 9 (.string rs))
   clear r9 z9 l9
   clear HB17b HF17
   clear hcv
   have hfk:∀ so,(if so=true then 4 else 0)=(if u5=false∧0<sn then 4 else 0)→∀ w',Calls Tryz.prog 99 #[.agg Ra17.toArray,.bool so,.int .i64 (4:Nat)] w' fun e w''=>∃ R',e = .returned (.agg R'.toArray)∧QS (q.sQ fi) xo len xc all R'∧Fr (fun _=>False) w' w'':=fun so h w'=>by
    have hb:=dR (w':=w') (aa HA).hl (aa HQ17) so 4 _ (by decide) (by decide) h
    have h9:=(aa HG2).2.2.2.2.2.2.2.2 fi
    rw[(aa H9).1,← (aa HSN)] at h9
    rw[h9] at hb
    exact hb
   have HK:=ae hfk
   have hev:(q.gK fi).aJ (.slice fo (q.r8 fi).2.1.length fc)=([.int .u32 (s1.2.1:Nat),.int .u32 (s1.2.2:Nat),.int .u32 (s2.2:Nat),.int .u8 (op:Nat),.int .u32 (s4.2:Nat),.int .u32 (ve:Nat),.int .u32 (s6.2:Nat),.int .u32 (s7.2:Nat),.slice fo (q.r8 fi).2.1.length fc,.string rs]:List Value).toArray:=by
    simp only[Q.gK,ed.aJ]
    rw[(aa HE).1,(aa HE).2.1,(aa HE).2.2.1,(aa HE).2.2.2.2,(aa HE2).1,(aa HE2).2.1,(aa HG2).2.2.1,(aa HE2).2.2.1,(aa HE2).2.2.2,(aa H9).1,(aa H9).2]
   have hok:q.sP fi:=by
    refine⟨?_,?_⟩
    ·rw[(aa HE2).2.2.2];exact(aa HI).1
    ·rw[(aa HE2).2.2.2];exact(aa HI).2
   have HV:=ae (And.intro hev hok)
   clear hfk hev hok
   have hBd:=(aa HB18).aD (Fr.refl (fun _=>False) _).drew
   have hFd:=(aa HF18).call (Fr.refl (fun _=>False) _).drew
   have hOd:=((aa HO17).dc ((Fr.refl (fun k=>k=w.heap.size+1+1+1) _).setCell (p:=⟨w.heap.size+1+1+1,9,none⟩) (.inl rfl) (.string rs)) (fun k hk=>.inl (by omega))).dc (Fr.refl (fun _=>False) _).drew (fun _ h=>h.elim)
   have HSd:=ae (fun W' (hf:Fr (fun k=>k=w.heap.size+1∨k=w.heap.size+1+1) _ W')=>show(W'.rangeAt w.heap.size 0 Ra17∧W'.rangeAt (w.heap.size+1+1+1) 0 [.int .u32 (s1.2.1:Nat),.int .u32 (s1.2.2:Nat),.int .u32 (s2.2:Nat),.int .u8 (op:Nat),.int .u32 (s4.2:Nat),.int .u32 (ve:Nat),.int .u32 (s6.2:Nat),.int .u32 (s7.2:Nat),.slice fo (q.r8 fi).2.1.length fc,.string rs]∧W'.cell? ⟨wu.heap.size,4,none⟩=some (.bool u5)) from⟨(hBd.C9 hf).1,(hBd.C9 hf).2,af ((aa HUb) _ (hFd.trans hf (fun k _ e=>by show k<w.heap.size+4;omega))) 4 _ rfl⟩)
   have HBd:=ae hBd
   have HOd:=ae hOd
   clear hBd hFd hOd
   cases u5
   ·refine wp_region_held_drew (S:=(fun W:World=>W.rangeAt w.heap.size 0 Ra17∧W.rangeAt (w.heap.size+1+1+1) 0 [.int .u32 (s1.2.1:Nat),.int .u32 (s1.2.2:Nat),.int .u32 (s2.2:Nat),.int .u8 (op:Nat),.int .u32 (s4.2:Nat),.int .u32 (ve:Nat),.int .u32 (s6.2:Nat),.int .u32 (s7.2:Nat),.slice fo (q.r8 fi).2.1.length fc,.string rs]∧W.cell? ⟨wu.heap.size,4,none⟩=some (.bool false))) (by kernel_rfl) ((aa HSd) _ (Fr.refl _ _)) (fun hHeld=>?_)
    refine cD (i:=0) rfl (yieldsIf_load_mid rfl 120 (.tmp 1) rfl w.heap.size 0 rfl _ _ (fun w h=>h.1) Tryz.underlying120 rfl (by rw[(aa HBd).n];exact Tryz.al)) hHeld ?_
    (try simp only[Act.put,bq])
    refine ko (i:=1) rfl hHeld ?_
    (try simp only[Act.put,bq])
    refine ko (i:=2) rfl hHeld ?_
    (try simp only[Act.put,bq])
    refine ko (i:=3) rfl hHeld ?_
    (try simp only[Act.put,bq])
    refine ko (i:=4) rfl hHeld ?_
    (try simp only[Act.put,bq])
    refine ko (i:=5) rfl hHeld ?_
    (try simp only[Act.put,bq])
    refine ko (i:=6) rfl hHeld ?_
    (try simp only[Act.put,bq])
    refine ko (i:=7) rfl hHeld ?_
    (try simp only[Act.put,bq])
    refine ko (i:=8) rfl hHeld ?_
    (try simp only[Act.put,bq])
    refine cD (i:=10) rfl (yieldsIf_load_mid rfl 30 (.tmp 4) rfl (w.heap.size+1+1+1) 0 rfl _ _ (fun w h=>h.2.1) Tryz.underlying30 rfl Tryz.fS) hHeld ?_
    (try simp only[Act.put,bq])
    refine wpAnyH_ready (rs:=[9]) (by kernel_rfl) (by simp) (AllReadyH.cons rfl (fun K hK=>?_) AllReadyH.nil)
    go_simp
    refine((aa HK) _ (by by_cases hz:0<sn <;> simp[hz]) _).mono ?_
    rintro e wg ⟨Rg,rfl,hQg,hfg⟩
    try dsimp only
    (try clear hHeld)
    refine hK.out _ _ ((aa HSd) _ (hfg.mono (fun _ _ h=>h.elim))) (fun hHeld=>?_)
    clear hK K
    (try simp only[Act.put,bq])
    obtain⟨W1,W2,s1',s2',f1,f2,hE1⟩:=((aa HBd).aD hfg).CG hQg rfl Tryz.fS (by simp[Value.oneCell'])
    have HS1:=ae s1'
    have HS2:=ae s2'
    have HF1:=ae ((hfg.mono (T:=fun k=>k=w.heap.size+1∨k=w.heap.size+1+1) (fun _ _ h=>h.elim)).trans f1 (fun _ _ h=>h))
    have HF2:=ae ((hfg.mono (T:=fun k=>k=w.heap.size+1∨k=w.heap.size+1+1) (fun _ _ h=>h.elim)).trans f2 (fun _ _ h=>h))
    have HE1:=ae hE1
    have HQg:=ae hQg
    clear s1' s2' f1 f2 hE1 hQg hfg
    refine wpAnyH_ready (rs:=[11]) (by kernel_rfl) (by simp) (AllReadyH.cons rfl (fun K hK=>?_) AllReadyH.nil)
    refine ck rfl 120 (.tmp 2) (.tmp 111) rfl _ _ (by simp[Act.eval]) (by simp[Act.eval]) (aa HS1) ?_
    (try clear hHeld)
    refine hK.out _ _ ((aa HSd) _ (aa HF1)) (fun hHeld=>?_)
    clear hK K
    (try simp only[Act.put,bq])
    refine wpAnyH_ready (rs:=[12]) (by kernel_rfl) (by simp) (AllReadyH.cons rfl (fun K hK=>?_) AllReadyH.nil)
    refine ck rfl 30 (.tmp 3) (.tmp 112) rfl _ _ (by simp[Act.eval]) (by simp[Act.eval]) (aa HS2) ?_
    (try clear hHeld)
    refine hK.out _ _ ((aa HSd) _ (aa HF2)) (fun hHeld=>?_)
    clear hK K
    (try simp only[Act.put,bq])
    refine wpAnyH_done (by kernel_rfl) ?_ _
    clear hHeld
    go_wp2_with fail
    exact iR (aa HE1) rfl _ _ (by simp) (by simp) Tryz.underlying120 rfl (by rw[(aa HQg).len];exact Tryz.al) Tryz.underlying30 rfl Tryz.fS ⟨Rg,.slice fo (q.r8 fi).2.1.length fc,fi,by rw[(aa HV).1],(aa HV).2,aa HQg,((aa HOd).dc (aa HF2) (fun k hk=>.inl (by omega))).base (by omega),(aa HE1).fr⟩
   ·refine wp_region_held_drew (S:=(fun W:World=>W.rangeAt w.heap.size 0 Ra17∧W.rangeAt (w.heap.size+1+1+1) 0 [.int .u32 (s1.2.1:Nat),.int .u32 (s1.2.2:Nat),.int .u32 (s2.2:Nat),.int .u8 (op:Nat),.int .u32 (s4.2:Nat),.int .u32 (ve:Nat),.int .u32 (s6.2:Nat),.int .u32 (s7.2:Nat),.slice fo (q.r8 fi).2.1.length fc,.string rs]∧W.cell? ⟨wu.heap.size,4,none⟩=some (.bool true))) (by kernel_rfl) ((aa HSd) _ (Fr.refl _ _)) (fun hHeld=>?_)
    refine cD (i:=0) rfl (yieldsIf_load_mid rfl 120 (.tmp 1) rfl w.heap.size 0 rfl _ _ (fun w h=>h.1) Tryz.underlying120 rfl (by rw[(aa HBd).n];exact Tryz.al)) hHeld ?_
    (try simp only[Act.put,bq])
    refine ko (i:=1) rfl hHeld ?_
    (try simp only[Act.put,bq])
    refine ko (i:=2) rfl hHeld ?_
    (try simp only[Act.put,bq])
    refine ko (i:=3) rfl hHeld ?_
    (try simp only[Act.put,bq])
    refine ko (i:=4) rfl hHeld ?_
    (try simp only[Act.put,bq])
    refine cD (i:=5) rfl (Or.inr ⟨rfl,rfl⟩) hHeld ?_
    (try simp only[Act.put,bq])
    refine cD (i:=6) rfl (Or.inr ⟨rfl,rfl⟩) hHeld ?_
    (try simp only[Act.put,bq])
    refine cD (i:=7) rfl (Or.inr ⟨rfl,rfl⟩) hHeld ?_
    (try simp only[Act.put,bq])
    refine ko (i:=8) rfl hHeld ?_
    (try simp only[Act.put,bq])
    refine cD (i:=10) rfl (yieldsIf_load_mid rfl 30 (.tmp 4) rfl (w.heap.size+1+1+1) 0 rfl _ _ (fun w h=>h.2.1) Tryz.underlying30 rfl Tryz.fS) hHeld ?_
    (try simp only[Act.put,bq])
    refine wpAnyH_ready (rs:=[9]) (by kernel_rfl) (by simp) (AllReadyH.cons rfl (fun K hK=>?_) AllReadyH.nil)
    go_simp
    refine((aa HK) _ (by simp) _).mono ?_
    rintro e wg ⟨Rg,rfl,hQg,hfg⟩
    try dsimp only
    (try clear hHeld)
    refine hK.out _ _ ((aa HSd) _ (hfg.mono (fun _ _ h=>h.elim))) (fun hHeld=>?_)
    clear hK K
    (try simp only[Act.put,bq])
    obtain⟨W1,W2,s1',s2',f1,f2,hE1⟩:=((aa HBd).aD hfg).CG hQg rfl Tryz.fS (by simp[Value.oneCell'])
    have HS1:=ae s1'
    have HS2:=ae s2'
    have HF1:=ae ((hfg.mono (T:=fun k=>k=w.heap.size+1∨k=w.heap.size+1+1) (fun _ _ h=>h.elim)).trans f1 (fun _ _ h=>h))
    have HF2:=ae ((hfg.mono (T:=fun k=>k=w.heap.size+1∨k=w.heap.size+1+1) (fun _ _ h=>h.elim)).trans f2 (fun _ _ h=>h))
    have HE1:=ae hE1
    have HQg:=ae hQg
    clear s1' s2' f1 f2 hE1 hQg hfg
    refine wpAnyH_ready (rs:=[11]) (by kernel_rfl) (by simp) (AllReadyH.cons rfl (fun K hK=>?_) AllReadyH.nil)
    refine ck rfl 120 (.tmp 2) (.tmp 111) rfl _ _ (by simp[Act.eval]) (by simp[Act.eval]) (aa HS1) ?_
    (try clear hHeld)
    refine hK.out _ _ ((aa HSd) _ (aa HF1)) (fun hHeld=>?_)
    clear hK K
    (try simp only[Act.put,bq])
    refine wpAnyH_ready (rs:=[12]) (by kernel_rfl) (by simp) (AllReadyH.cons rfl (fun K hK=>?_) AllReadyH.nil)
    refine ck rfl 30 (.tmp 3) (.tmp 112) rfl _ _ (by simp[Act.eval]) (by simp[Act.eval]) (aa HS2) ?_
    (try clear hHeld)
    refine hK.out _ _ ((aa HSd) _ (aa HF2)) (fun hHeld=>?_)
    clear hK K
    (try simp only[Act.put,bq])
    refine wpAnyH_done (by kernel_rfl) ?_ _
    clear hHeld
    go_wp2_with fail
    exact iR (aa HE1) rfl _ _ (by simp) (by simp) Tryz.underlying120 rfl (by rw[(aa HQg).len];exact Tryz.al) Tryz.underlying30 rfl Tryz.fS ⟨Rg,.slice fo (q.r8 fi).2.1.length fc,fi,by rw[(aa HV).1],(aa HV).2,aa HQg,((aa HOd).dc (aa HF2) (fun k hk=>.inl (by omega))).base (by omega),(aa HE1).fr⟩
theorem Tryz.lE:(Tryz.prog.info? 35).map (·.size)=some 13:=by kernel_rfl
def yz:List Value:=[.int .u32 0,.int .u32 0,.int .u32 0,.int .u32 0,.int .u8 0,.int .u32 0,.int .u32 0,.int .u32 0,.int .u32 0,.slice none 0 0,.string ⟨#[]⟩,.int .u8 0,.slice none 0 0]
def Q.v2 (q:Q):Q × Nat:=q.bV iu 4
def Q.v4 (q:Q) (i:Nat):Q × Nat:=(q.v2.1.sQ i).gn
def Q.v5 (q:Q) (i:Nat):Q × List Nat:=(q.v4 i).1.many eb 1 32
def Q.sJ (q:Q) (i:Nat):iW:=⟨q.v2.2,q.v2.1.gK i,(q.v4 i).2,(q.v5 i).2⟩
theorem jg {w:World} {xo:Option Addr} {len xc:Nat} {all:List Nat} {R:List Value} {q:Q} (A:j9 w xo len xc all) (h:QS q xo len xc all R) :
  Calls Tryz.prog 61 #[.agg R.toArray] w fun e w'=>∃ R' v x i,e = .returned (.tuple #[.agg R'.toArray,.agg ((q.sJ i).aJ v x)])∧q.v2.1.sP i∧QS (q.v5 i).1 xo len xc all R'∧dy w' w.heap.size v (q.v2.1.r8 i).2.1 (fun _=>False)∧Src w' x (q.v5 i).2∧(∀ g o m c,x = .slice (some ⟨g,o,none⟩) m c→w.heap.size≤g)∧Fr (fun _=>False) w w':=by
 have HA:=ae A
 have HQ:=ae h
 obtain⟨s2,e2⟩:∃ x,q.v2=x:=⟨_,rfl⟩
 have hpl:s2.2<4294967296:=by rw[← e2];exact Q.go_lt _ 4 0
 have g2:q.bV iu 4=s2:=e2
 have HE:=ae (And.intro e2 g2)
 clear g2 e2
 obtain⟨ha,ho,last,rfl,hla⟩:=h
 rw[ei]
 have HB0:=ae (BX.start w 35 (q.rv xo len xc last).toList yz rfl)
 unfold Q.rv at HB0 ⊢
 clear ha ho hla A
 go_enter Tryz.func61,Tryz.ntmps61
 go_wp2_with fail
 refine(cG (aa HA) (u0 _ _ _ _ _) (aa HQ) iu 4 (.inr (.inl rfl))).mono ?_
 rintro e wa1 ⟨Ra1,rfl,hQa,hfa⟩
 rw[(aa HE).2] at hQa ⊢
 obtain⟨wb1,hst,hBb,hfb⟩:=((aa HB0).aD hfa).aU hQa
 have hw:=dq hpl
 have HST:=ae hst
 have HB1b:=ae hBb
 have HQ1:=ae hQa
 clear hst hBb hfb hfa hQa HB0 HQ   
 have r0:=(aa HB1b).cell 0 _ rfl
 have z0:=(aa HB1b).ep 0
 have l0:=ab r0
 go_upto_region 4 with (first|((with_reducible refine aq ?_);refine ag rfl 120 (.tmp 1) (.tmp 9) rfl _ _ rfl rfl (aa HST) ?_))
 clear HST
 have HB2:Hid (BX w _ 35 Ra1 yz [.int .u32 (s2.2:Nat),.int .u32 0,.int .u32 0,.int .u32 0,.int .u8 0,.int .u32 0,.int .u32 0,.int .u32 0,.int .u32 0,.slice none 0 0,.string ⟨#[]⟩,.int .u8 0,.slice none 0 0]):=ae ((aa HB1b).bL 0 (.int .u32 (s2.2:Nat)))
 clear r0 z0 l0
 clear HB1b 
 clear hw
 go_wp2_with (first|((with_reducible refine av 15 ?_);refine wpList_load_mid rfl 120 (.tmp 1) rfl w.heap.size 0 rfl _ _ (af (aa HB2).b0) Tryz.underlying120 rfl (by rw[(aa HB2).n];exact Tryz.al) ?_))
 refine(eX ((aa HA).aD (aa HB2).fr) (aa HQ1)).mono ?_
 rintro e wa3 ⟨Ra3,fv,fi,rfl,hok,hQa,hOa,hfa⟩
 obtain⟨fo,fc,rfl⟩:=cU hOa.row
 obtain⟨rq,hrq⟩:∃ x,s2.1.gK fi=x:=⟨_,rfl⟩
 rw[hrq]
 obtain⟨cl,nu,ac,op,re,ve,wa,ow,fs,rs⟩:=rq
 unfold ed.aJ
 dsimp only
 have hlo:=(aa HB2).lt
 have hOa:=hOa.base (base':=w.heap.size+4) (by omega)
 obtain⟨wb3,hst,hBb,hfb⟩:=((aa HB2).aD hfa).aU hQa
 have HO1:=ae (hOa.dc hfb (fun k hk=>.inl (by omega)))
 have HI:=ae (And.intro hok hrq)
 have HST:=ae hst
 have HB3b:=ae hBb
 have HQ3:=ae hQa
 clear hst hBb hfb hfa hQa HB2 HQ1   hOa hlo hok hrq
 have r1:=(aa HB3b).cell 1 _ rfl
 have z1:=(aa HB3b).ep 1
 have l1:=ab r1
 have r2:=(aa HB3b).cell 2 _ rfl
 have z2:=(aa HB3b).ep 2
 have l2:=ab r2
 have r3:=(aa HB3b).cell 3 _ rfl
 have z3:=(aa HB3b).ep 3
 have l3:=ab r3
 have r4:=(aa HB3b).cell 4 _ rfl
 have z4:=(aa HB3b).ep 4
 have l4:=ab r4
 have r5:=(aa HB3b).cell 5 _ rfl
 have z5:=(aa HB3b).ep 5
 have l5:=ab r5
 have r6:=(aa HB3b).cell 6 _ rfl
 have z6:=(aa HB3b).ep 6
 have l6:=ab r6
 have r7:=(aa HB3b).cell 7 _ rfl
 have z7:=(aa HB3b).ep 7
 have l7:=ab r7
 have r8:=(aa HB3b).cell 8 _ rfl
 have z8:=(aa HB3b).ep 8
 have l8:=ab r8
 have r9:=(aa HB3b).cell 9 _ rfl
 have z9:=(aa HB3b).ep 9
 have l9:=ab r9
 have r10:=(aa HB3b).cell 10 _ rfl
 have z10:=(aa HB3b).ep 10
 have l10:=ab r10
 go_upto_region 5 with (first|((with_reducible refine aq ?_);refine ag rfl 120 (.tmp 1) (.tmp 17) rfl _ _ rfl rfl (aa HST) ?_))
 clear HST
 have HB4:Hid (BX w _ 35 Ra3 yz [.int .u32 (s2.2:Nat),.int .u32 (cl:Nat),.int .u32 (nu:Nat),.int .u32 (ac:Nat),.int .u8 (op:Nat),.int .u32 (re:Nat),.int .u32 (ve:Nat),.int .u32 (wa:Nat),.int .u32 (ow:Nat),.slice fo (s2.1.r8 fi).2.1.length fc,.string rs,.int .u8 0,.slice none 0 0]):=ae (((((((((((aa HB3b).bL 1 (.int .u32 (cl:Nat))).bL 2 (.int .u32 (nu:Nat))).bL 3 (.int .u32 (ac:Nat))).bL 4 (.int .u8 (op:Nat))).bL 5 (.int .u32 (re:Nat))).bL 6 (.int .u32 (ve:Nat))).bL 7 (.int .u32 (wa:Nat))).bL 8 (.int .u32 (ow:Nat))).bL 9 (.slice fo (s2.1.r8 fi).2.1.length fc)).bL 10 (.string rs))
 have HO4:=ae ((aa HO1).dc (((((((((((Fr.refl (fun k=>k=w.heap.size+1+1+1) _).setCell (p:=⟨w.heap.size+1+1+1,1,none⟩) (.inl rfl) (.int .u32 (cl:Nat))).setCell (p:=⟨w.heap.size+1+1+1,2,none⟩) (.inl rfl) (.int .u32 (nu:Nat))).setCell (p:=⟨w.heap.size+1+1+1,3,none⟩) (.inl rfl) (.int .u32 (ac:Nat))).setCell (p:=⟨w.heap.size+1+1+1,4,none⟩) (.inl rfl) (.int .u8 (op:Nat))).setCell (p:=⟨w.heap.size+1+1+1,5,none⟩) (.inl rfl) (.int .u32 (re:Nat))).setCell (p:=⟨w.heap.size+1+1+1,6,none⟩) (.inl rfl) (.int .u32 (ve:Nat))).setCell (p:=⟨w.heap.size+1+1+1,7,none⟩) (.inl rfl) (.int .u32 (wa:Nat))).setCell (p:=⟨w.heap.size+1+1+1,8,none⟩) (.inl rfl) (.int .u32 (ow:Nat))).setCell (p:=⟨w.heap.size+1+1+1,9,none⟩) (.inl rfl) (.slice fo (s2.1.r8 fi).2.1.length fc)).setCell (p:=⟨w.heap.size+1+1+1,10,none⟩) (.inl rfl) (.string rs)) (fun k hk=>.inl (by omega)))
 clear r1 z1 l1 r2 z2 l2 r3 z3 l3 r4 z4 l4 r5 z5 l5 r6 z6 l6 r7 z7 l7 r8 z8 l8 r9 z9 l9 r10 z10 l10
 clear HB3b HO1
 obtain⟨s4,e4⟩:∃ x,q.v4 fi=x:=⟨_,rfl⟩
 have g4:(s2.1.sQ fi).gn=s4:=by rw[← (aa HE).1];exact e4
 obtain⟨s5,e5⟩:∃ x,q.v5 fi=x:=⟨_,rfl⟩
 have g5:s4.1.many eb 1 32=s5:=by rw[← e4];exact e5
 have H4:=ae (And.intro e4 (And.intro g4 (And.intro e5 g5)))
 clear e4 g4 e5 g5
 go_wp2_with (first|((with_reducible refine av 21 ?_);refine wpList_load_mid rfl 120 (.tmp 1) rfl w.heap.size 0 rfl _ _ (af (aa HB4).b0) Tryz.underlying120 rfl (by rw[(aa HB4).n];exact Tryz.al) ?_))
 refine(lW (aa HA) (aa HB4).fr (aa HQ3)).mono ?_
 rintro e wa5 ⟨Ra5,rfl,hQa,hfa⟩
 rw[(aa H4).2.1] at hQa ⊢
 obtain⟨wb5,hst,hBb,hfb⟩:=((aa HB4).aD hfa).aU hQa
 have HO5:=ae (((aa HO4).dc hfa (fun _ h=>h.elim)).dc hfb (fun k hk=>.inl (by omega)))
 have HST:=ae hst
 have HB5b:=ae hBb
 have HQ5:=ae hQa
 clear hst hBb hfb hfa hQa HB4 HQ3  HO4 
 have r11:=(aa HB5b).cell 11 _ rfl
 have z11:=(aa HB5b).ep 11
 have l11:=ab r11
 go_upto_region 6 with (first|((with_reducible refine aq ?_);refine ag rfl 120 (.tmp 1) (.tmp 23) rfl _ _ rfl rfl (aa HST) ?_))
 clear HST
 have HB6:Hid (BX w _ 35 Ra5 yz [.int .u32 (s2.2:Nat),.int .u32 (cl:Nat),.int .u32 (nu:Nat),.int .u32 (ac:Nat),.int .u8 (op:Nat),.int .u32 (re:Nat),.int .u32 (ve:Nat),.int .u32 (wa:Nat),.int .u32 (ow:Nat),.slice fo (s2.1.r8 fi).2.1.length fc,.string rs,.int .u8 (s4.2:Nat),.slice none 0 0]):=ae ((aa HB5b).bL 11 (.int .u8 (s4.2:Nat)))
 clear r11 z11 l11
 clear HB5b 
 have HO7:=ae ((aa HO5).dc ((Fr.refl (fun k=>k=w.heap.size+1+1+1) _).setCell (p:=⟨w.heap.size+1+1+1,11,none⟩) (.inl rfl) (.int .u8 (s4.2:Nat))) (fun k hk=>.inl (by omega)))
 clear HO5
 go_wp2_with (first|((with_reducible refine av 27 ?_);refine wpList_load_mid rfl 120 (.tmp 1) rfl w.heap.size 0 rfl _ _ (af (aa HB6).b0) Tryz.underlying120 rfl (by rw[(aa HB6).n];exact Tryz.al) ?_))
 refine(gB (aa HA) (aa HB6).fr (aa HQ5) eb 1 32 (by decide)).mono ?_
 rintro e wa8 ⟨Ra8,sx,sn,sc,rfl,hQa,hsa,hna,hfa⟩
 rw[(aa H4).2.2.2] at hQa hsa
 have hlz:=(aa HB6).lt
 obtain⟨wb8,hst,hBb,hfb⟩:=((aa HB6).aD hfa).aU hQa
 have HO8:=ae (((aa HO7).dc hfa (fun _ h=>h.elim)).dc hfb (fun k hk=>.inl (by omega)))
 have hsb:=hsa.fr hfb (fun g o m c e hx=>by have:=hna g o m c e;omega)
 have hnb:∀ g o m c,Value.slice sx sn sc = .slice (some ⟨g,o,none⟩) m c→w.heap.size+4≤g:=fun g o m c e=>by have:=hna g o m c e;omega
 have HS:=ae (And.intro hsb hnb)
 have HST:=ae hst
 have HB8b:=ae hBb
 have HQ8:=ae hQa
 clear hst hBb hfb hfa hQa HB6 HQ5  HO7 hsa hna hsb hnb hlz
 have r12:=(aa HB8b).cell 12 _ rfl
 have z12:=(aa HB8b).ep 12
 have l12:=ab r12
 go_upto_region 7 with (first|((with_reducible refine aq ?_);refine ag rfl 120 (.tmp 1) (.tmp 29) rfl _ _ rfl rfl (aa HST) ?_))
 clear HST
 have HB9:Hid (BX w _ 35 Ra8 yz [.int .u32 (s2.2:Nat),.int .u32 (cl:Nat),.int .u32 (nu:Nat),.int .u32 (ac:Nat),.int .u8 (op:Nat),.int .u32 (re:Nat),.int .u32 (ve:Nat),.int .u32 (wa:Nat),.int .u32 (ow:Nat),.slice fo (s2.1.r8 fi).2.1.length fc,.string rs,.int .u8 (s4.2:Nat),.slice sx sn sc]):=ae ((aa HB8b).bL 12 (.slice sx sn sc))
 clear r12 z12 l12
 clear HB8b 
 have hev:(q.sJ fi).aJ (.slice fo (s2.1.r8 fi).2.1.length fc) (.slice sx sn sc)=([.int .u32 (s2.2:Nat),.int .u32 (cl:Nat),.int .u32 (nu:Nat),.int .u32 (ac:Nat),.int .u8 (op:Nat),.int .u32 (re:Nat),.int .u32 (ve:Nat),.int .u32 (wa:Nat),.int .u32 (ow:Nat),.slice fo (s2.1.r8 fi).2.1.length fc,.string rs,.int .u8 (s4.2:Nat),.slice sx sn sc]:List Value).toArray:=by
  have e1:=(aa HI).2
  simp only[Q.sJ,iW.aJ]
  rw[(aa HE).1,(aa H4).1]
  rw[e1]
 have HV:=ae hev
 clear hev
 have HOd:=ae ((aa HO8).dc ((Fr.refl (fun k=>k=w.heap.size+1+1+1) _).setCell (p:=⟨w.heap.size+1+1+1,12,none⟩) (.inl rfl) (.slice sx sn sc)) (fun k hk=>.inl (by omega)))
 have HSs:=ae ((aa HS).1.fr ((Fr.refl (fun k=>k=w.heap.size+1+1+1) _).setCell (p:=⟨w.heap.size+1+1+1,12,none⟩) (.inl rfl) (.slice sx sn sc)) (fun g o m c e hx=>by have:=(aa HS).2 g o m c e;omega))
 refine jJ (aa HB9) (aa HQ8) rfl Tryz.lE (by simp[Value.oneCell']) _ Tryz.underlying35 rfl (by simp) (by simp) (by simp) (by simp) (by decide) (by decide) (by simp) (fun _ _ dst _ _ h=>by cases dst <;> exact h) (fun t' W2 p2 p3 hE hfe=>?_)
 have HE1:=ae hE
 have HF2:=ae hfe
 clear hE hfe
 go_wp2_with fail
 exact fq (aa HE1) (aa HQ8).len _ Tryz.underlying35 rfl Tryz.lE rfl p2 p3 ⟨Ra8,.slice fo (s2.1.r8 fi).2.1.length fc,.slice sx sn sc,fi,by rw[aa HV],by rw[(aa HE).1];exact(aa HI).1,by rw[(aa H4).2.2.1];exact aa HQ8,by rw[(aa HE).1];exact((aa HOd).dc (aa HF2) (fun k hk=>.inl (by omega))).base (by omega),by rw[(aa H4).2.2.1];exact(aa HSs).fr (aa HF2) (fun g o m c e hx=>by have:=(aa HS).2 g o m c e;omega),fun g o m c e=>by have:=(aa HS).2 g o m c e;omega,(aa HE1).fr⟩
structure QL (a b:Q):Prop where
 all:a.all=b.all
 f:a.f=b.f
 eq:a.f=none→a=b
theorem QL.refl (a:Q):QL a a:=⟨rfl,rfl,fun _=>rfl⟩
theorem Q.go_given {q:Q} (hf:q.f≠none) (k m:Int) (hk:k≠10):q.go k m=(q,0,[]):=by
 unfold Q.go Q.step
 rw[if_neg hk,if_pos hf]
theorem QL.go {a b:Q} (h:QL a b) (nm:ByteArray) (k m:Int) (hk:k≠10):QL ((a.aj nm).go k m).1 ((b.named nm).go k m).1∧((a.aj nm).go k m).2=((b.named nm).go k m).2:=by
 by_cases hf:a.f=none
 ·obtain rfl:=h.eq hf
  have e:a.aj nm=a.named nm:=by unfold Q.aj;rw[if_pos hf]
  rw[e]
  exact⟨QL.refl _,rfl⟩
 ·have e:a.aj nm=a:=by unfold Q.aj;rw[if_neg hf]
  have hb:(b.named nm).f≠none:=by show b.f≠none;rw[← h.f];exact hf
  rw[e,Q.go_given hf k m hk,Q.go_given hb k m hk]
  exact⟨⟨h.all,h.f,fun hx=>absurd hx hf⟩,rfl⟩
theorem QL.ah {a b:Q} (h:QL a b) {n m:Nat} (hnm:a.f=none→n=m):QL (a.ah n) (b.ah m):=by
 by_cases hf:a.f=none
 ·obtain rfl:=h.eq hf
  rw[hnm hf]
  exact QL.refl _
 ·have hb:b.f≠none:=by rw[← h.f];exact hf
  unfold Q.ah
  rw[if_pos (.inr hf),if_pos (.inr hb)]
  exact⟨h.all,h.f,fun hx=>absurd hx hf⟩
theorem Q.aZ (q:Q):q.ah 0=q:=by unfold Q.ah;rw[if_pos (.inl rfl)]
theorem QL.u8 {a b:Q} (h:QL a b) (nm:ByteArray) (rs:List (Nat→Nat)) (v n:Nat) (hn:n=fb rs (a.bV nm 1).2):∃ b',(CS.rd b).fF nm rs v=(.rd b',(a.bV nm 1).2)∧QL ((a.bV nm 1).1.ah n) b':=by
 obtain⟨h1,h2⟩:=h.go nm 1 0 (by decide)
 have e:(a.bV nm 1).2=((b.named nm).go 1 0).2.1:=congrArg Prod.fst h2
 refine⟨_,?_,h1.ah (m:=fb rs ((b.named nm).go 1 0).2.1) (fun _=>by rw[hn,e])⟩
 rw[e]
 rfl
theorem QL.u32 {a b:Q} (h:QL a b) (nm:ByteArray) (rs:List (Nat→Nat)) (v n:Nat) (hn:n=fb rs (a.bV nm 4).2):∃ b',(CS.rd b).bW nm rs v=(.rd b',(a.bV nm 4).2)∧QL ((a.bV nm 4).1.ah n) b':=by
 obtain⟨h1,h2⟩:=h.go nm 4 0 (by decide)
 have e:(a.bV nm 4).2=((b.named nm).go 4 0).2.1:=congrArg Prod.fst h2
 refine⟨_,?_,h1.ah (m:=fb rs ((b.named nm).go 4 0).2.1) (fun _=>by rw[hn,e])⟩
 rw[e]
 rfl
theorem QL.f32 {a b:Q} (h:QL a b) (nm:ByteArray) (rs:List (Nat→Nat)) (v n:Nat) (hn:n=fb rs (a.bV nm 5).2):∃ b',(CS.rd b).gL nm rs v=(.rd b',(a.bV nm 5).2)∧QL ((a.bV nm 5).1.ah n) b':=by
 obtain⟨h1,h2⟩:=h.go nm 5 0 (by decide)
 have e:(a.bV nm 5).2=((b.named nm).go 5 0).2.1:=congrArg Prod.fst h2
 refine⟨_,?_,h1.ah (m:=fb rs ((b.named nm).go 5 0).2.1) (fun _=>by rw[hn,e])⟩
 rw[e]
 rfl
theorem QL.DB {a b:Q} (h:QL a b) (nm:ByteArray) (lo m:Int) (rs:List (List Nat→Nat)) (v:List Nat) (n:Nat) (hn:(a.many nm lo m).1.f=none→n=fb rs (a.many nm lo m).2) (hn2:((((a.many nm lo m).2.length:Nat):Int)<lo→fb rs (a.many nm lo m).2=4)):∃ b',(CS.rd b).fK nm m rs v=(.rd b',(a.many nm lo m).2)∧QL ((a.many nm lo m).1.ah n) b':=by
 obtain⟨h1,h2⟩:=h.go nm 6 m (by decide)
 have e:(a.many nm lo m).2=((b.named nm).go 6 m).2.2:=congrArg Prod.snd h2
 refine⟨((b.named nm).go 6 m).1.ah (fb rs ((b.named nm).go 6 m).2.2),?_,?_⟩
 ·rw[e]
  rfl
 ·rw[← e]
  by_cases hf:((a.aj nm).go 6 m).1.f=none
  ·by_cases hl:(((a.many nm lo m).2.length:Nat):Int)<lo
   ·have e4:(a.many nm lo m).1=((a.aj nm).go 6 m).1.ah 4:=by
     show((a.aj nm).go 6 m).1.ah (if (((a.many nm lo m).2.length:Nat):Int)<lo then 4 else 0)=_
     rw[if_pos hl]
    have hne:(((a.aj nm).go 6 m).1.ah 4).f≠none:=by unfold Q.ah;rw[if_neg (by simp[hf])];simp
    have e5:(((a.aj nm).go 6 m).1.ah 4).ah n=((a.aj nm).go 6 m).1.ah 4:=by
     generalize hq:((a.aj nm).go 6 m).1.ah 4=r at hne ⊢
     unfold Q.ah
     rw[if_pos (.inr hne)]
    rw[e4,e5,hn2 hl]
    exact h1.ah (fun _=>rfl)
   ·have e4:(a.many nm lo m).1=((a.aj nm).go 6 m).1:=by
     show((a.aj nm).go 6 m).1.ah (if (((a.many nm lo m).2.length:Nat):Int)<lo then 4 else 0)=_
     rw[if_neg hl,Q.aZ]
    rw[e4] at hn ⊢
    exact h1.ah hn
  ·have e4:∀ k,((a.aj nm).go 6 m).1.ah k=((a.aj nm).go 6 m).1:=fun k=>by unfold Q.ah;rw[if_pos (.inr hf)]
   have e5:(a.many nm lo m).1=((a.aj nm).go 6 m).1:=e4 _
   rw[e5]
   exact h1.ah (fun hx=>absurd hx hf)
theorem QL.int {a b:Q} (h:QL a b) (nm:ByteArray) (m:Int) (rs:List (Int→Nat)) (v:Int) (n:Nat) (hn:n=fb rs ((a.bT nm m).2:Int)):∃ b',(CS.rd b).cB nm m rs v=(.rd b',((a.bT nm m).2:Int))∧QL ((a.bT nm m).1.ah n) b':=by
 obtain⟨h1,h2⟩:=h.go nm 7 m (by decide)
 have e:(a.bT nm m).2=((b.named nm).go 7 m).2.1:=congrArg Prod.fst h2
 refine⟨_,?_,h1.ah (m:=fb rs (((b.named nm).go 7 m).2.1:Int)) (fun _=>by rw[hn,e])⟩
 rw[e]
 rfl
theorem Q.go_max (q:Q) (m:Nat):(q.go 6 m).2.2.length≤m:=by
 unfold Q.go Q.step
 dsimp only
 split
 ·exact Nat.zero_le _
 split
 ·exact Nat.zero_le _
 split
 ·exact Nat.zero_le _
 split
 ·exact Nat.zero_le _
 split
 ·exact Nat.zero_le _
 split
 ·exact Nat.zero_le _
 rename_i h
 have h2:¬ (m:Int)<(q.num 4:Int):=fun hx=>h ⟨.inl rfl,hx⟩
 split
 ·exact Nat.zero_le _
 split
 ·exact Nat.zero_le _
 ·simp
  omega
theorem Q.dt (q:Q) (nm:ByteArray) (lo:Int) (m:Nat):(q.many nm lo m).2.length≤m:=(q.aj nm).go_max m
theorem QL.manyN {a b:Q} (h:QL a b) (nm:ByteArray) (lo m:Int) (n k:Nat) (hn:(a.many nm lo m).1.f=none→n=k) (hn2:(((a.many nm lo m).2.length:Nat):Int)<lo→k=4):QL ((a.many nm lo m).1.ah n) (((b.named nm).go 6 m).1.ah k):=by
 obtain⟨b',e,hq⟩:=h.DB nm lo m [fun _=>k] [] n (fun hf=>by rw[hn hf];simp[fb]) (fun hl=>by simp[fb,hn2 hl])
 have e2:b'=((b.named nm).go 6 m).1.ah (fb [fun _=>k] ((b.named nm).go 6 m).2.2):=by
  have:=congrArg Prod.fst e
  injection this with this
  exact this.symm
 have e3:∀ l:List Nat,fb [fun _=>k] l=k:=fun l=>by simp only[fb];by_cases hk:k=0 <;> simp[hk]
 rw[e3] at e2
 rw[← e2]
 exact hq
theorem QL.str {a b:Q} (h:QL a b) (nm:ByteArray) (lo m:Int) (rs:List (ByteArray→Nat)) (v:ByteArray) (n:Nat) (hn:(a.many nm lo m).1.f=none→n=fb rs (strOf (a.many nm lo m).2)) (hn2:(((a.many nm lo m).2.length:Nat):Int)<lo→fb rs (strOf (a.many nm lo m).2)=4):∃ b',(CS.rd b).dU nm m rs v=(.rd b',strOf (a.many nm lo m).2)∧QL ((a.many nm lo m).1.ah n) b':=by
 obtain⟨_,h2⟩:=h.go nm 6 m (by decide)
 have e:(a.many nm lo m).2=((b.named nm).go 6 m).2.2:=congrArg Prod.snd h2
 refine⟨_,?_,h.manyN nm lo m n _ hn hn2⟩
 rw[e]
 rfl
theorem Q.pO {q:Q} {nm:ByteArray} {lo m:Int} (h:(q.many nm lo m).1.f=none):lo≤((q.many nm lo m).2.length:Nat):=by
 by_cases hl:(((q.many nm lo m).2.length:Nat):Int)<lo
 ·exfalso
  have e4:(q.many nm lo m).1=((q.aj nm).go 6 m).1.ah 4:=by
   show((q.aj nm).go 6 m).1.ah (if (((q.many nm lo m).2.length:Nat):Int)<lo then 4 else 0)=_
   rw[if_pos hl]
  rw[e4] at h
  unfold Q.ah at h
  split at h
  ·rename_i hx
   rcases hx with hx|hx
   ·omega
   ·exact hx h
  ·cases h
 ·omega
theorem QL.named {a b:Q} (h:QL a b) (before:ByteArray) (first gone:Bool) (hb0:first=true→before=⟨#[]⟩) :
  ∃ b' f',(CS.rd b).bP before (if gone then 3 else 2) ej=(.rd b',f')∧QL (a.dn before first gone).1 b'∧((a.dn before first gone).1.f=none→f'=(a.dn before first gone).2):=by
 have hmx:=a.dt bQ 1 64
 obtain⟨b1,e1,h1⟩:=h.str bQ 1 64 [fun v=>dj 1 64 v.size,kY before] ej.name (BQ first (strOf (a.many bQ 1 64).2) before) (fun hf=>by
  have hlo:=Q.pO hf
  have hm:(a.many bQ 1 64).2.length≤64:=hmx
  have hz:dj 1 64 (strOf (a.many bQ 1 64).2).size=0:=by
   unfold dj
   rw[dJ,if_neg (by omega),if_neg (by omega)]
  rw[Bq before _ (if first then 0 else 1) (fun h=>hb0 (by cases first <;> simp_all)),hz]
  cases first <;> simp[BQ]) (fun hl=>by
  have hm:(a.many bQ 1 64).2.length≤64:=hmx
  have hz:dj 1 64 (strOf (a.many bQ 1 64).2).size=4:=by
   unfold dj
   rw[dJ,if_neg (by omega),if_pos hl]
  simp only[fb]
  rw[if_neg (by rw[hz];decide)]
  exact hz)
 unfold CS.bP
 rw[e1]
 dsimp only
 unfold Q.dn
 have e0:(a.many bQ 1 64).1.ah (BQ first (strOf (a.many bQ 1 64).2) before)=a.fT before first:=rfl
 rw[e0] at h1
 generalize a.fT before first=q1 at h1 ⊢
 generalize strOf (a.many bQ 1 64).2=nm
 have hbs:({ ej with name:=nm } : cA).beside=false:=by simp[cA.beside,ej]
 obtain⟨b2,e2,h2⟩:=h1.u8 bj [bI 1 (if gone then 3 else 2) 5,gQ false] ej.kind (k8 gone (q1.bV bj 1).2) (by
  generalize (q1.bV bj 1).2=k
  simp only[fb,gQ,k8,bI]
  cases gone <;> simp <;> (repeat' split) <;> omega)
 unfold CS.cY
 rw[hbs,e2]
 dsimp only
 generalize (q1.bV bj 1).2=k at h2 ⊢
 generalize (q1.bV bj 1).1.ah (k8 gone k)=q2 at h2 ⊢
 unfold Q.eF
 by_cases k1:k=1
 ·rw[if_pos k1,if_pos k1]
  have hmt:=q2.dt dQ 0 64
  obtain⟨b3,e3,h3⟩:=h2.str dQ 0 64 [fun v=>dj 0 64 v.size] ej.text 0 (fun _=>by
   have hm:(q2.many dQ 0 64).2.length≤64:=hmt
   have hz:dj 0 64 (strOf (q2.many dQ 0 64).2).size=0:=by
    unfold dj
    rw[dJ,if_neg (by omega),if_neg (by omega)]
   simp only[fb]
   rw[if_pos hz]) (fun hl=>absurd hl (Int.not_lt.2 (Int.natCast_nonneg _)))
  rw[e3]
  rw[Q.aZ] at h3
  exact⟨b3,_,rfl,h3,fun _=>rfl⟩
 rw[if_neg k1,if_neg k1]
 by_cases k2:k=2
 ·rw[if_pos k2,if_pos k2]
  obtain⟨b3,e3,h3⟩:=h2.f32 cF [] ej.value 0 rfl
  rw[Q.aZ] at h3
  rw[e3]
  dsimp only
  obtain⟨b4,e4,h4⟩:=h3.u8 dN [bI 1 21 4] ej.unit (bI 1 21 4 ((q2.bV cF 5).1.bV dN 1).2) (by simp only[fb];split <;> simp_all)
  rw[e4]
  exact⟨b4,_,rfl,h4,fun _=>rfl⟩
 ·rw[if_neg k2,if_neg k2]
  exact⟨b2,_,rfl,h2,fun _=>rfl⟩
theorem fO (c:Q) (before:ByteArray) (last:Nat) (hc:c.f≠none):∃ c' f',(CS.rd c).bP before last ej=(.rd c',f')∧c'.all=c.all∧c'.f=c.f:=by
 have hl:=gT (CS.rd c) before last ej
 cases hp:(CS.rd c).bP before last ej with
 | mk c1 f1 =>
  rw[hp] at hl
  cases c1 with
  | wr s=>exact hl.elim
  | rd c' =>
   obtain⟨x,hx⟩:=Option.ne_none_iff_exists'.1 hc
   exact⟨c',f1,rfl,hl.1,by rw[hx];exact hl.2 x hx⟩
theorem QL.loop {a b:Q} (h:QL a b) (gone:Bool):∀ i,∃ b' nm' l',fL (ba (if gone then 3 else 2)) ej i (CS.rd b,⟨#[]⟩)=((CS.rd b',nm'),l')∧QL (a.dT gone i).1 b'∧((a.dT gone i).1.f=none→nm'=(a.dT gone i).2.2∧l'=(a.dT gone i).2.1):=by
 intro i
 induction i with
 | zero=>exact⟨b,_,_,rfl,h,fun _=>⟨rfl,rfl⟩⟩
 | succ i ih =>
  obtain⟨b',nm',l',e,hq,hv⟩:=ih
  have h0:decide (i=0)=true→(a.dT gone i).2.2=⟨#[]⟩:=fun h0=>by
   have h1:i=0:=of_decide_eq_true h0
   subst h1
   rfl
  by_cases hf:(a.dT gone i).1.f=none
  ·obtain⟨rfl,rfl⟩:=hv hf
   obtain⟨b2,f',e2,h2,hv2⟩:=hq.named (a.dT gone i).2.2 (decide (i=0)) gone h0
   refine⟨b2,f'.name,(a.dT gone i).2.1++[f'],?_,h2,fun hf2=>?_⟩
   ·simp only[fL]
    rw[e]
    simp only[ba]
    rw[e2]
   ·have:=hv2 hf2
    subst this
    exact⟨rfl,rfl⟩
  ·have hb:b'.f≠none:=by rw[← hq.f];exact hf
   obtain⟨b2,f',e2,ha2,hf2⟩:=fO b' nm' (if gone then 3 else 2) hb
   obtain⟨c1,g1,e3,h3,_⟩:=(QL.refl (a.dT gone i).1).named (a.dT gone i).2.2 (decide (i=0)) gone h0
   obtain⟨c2,g2,e4,ha4,hf4⟩:=fO (a.dT gone i).1 (a.dT gone i).2.2 (if gone then 3 else 2) hf
   rw[e4] at e3
   have e5:c2=c1:=by
    have:=congrArg Prod.fst e3
    injection this
   subst e5
   have hfx:((a.dT gone i).1.dn (a.dT gone i).2.2 (decide (i=0)) gone).1.f=(a.dT gone i).1.f:=by rw[h3.f,hf4]
   refine⟨b2,f'.name,l'++[f'],?_,⟨?_,?_,fun hx=>?_⟩,fun hx=>?_⟩
   ·simp only[fL]
    rw[e]
    simp only[ba]
    rw[e2]
   ·show((a.dT gone i).1.dn (a.dT gone i).2.2 (decide (i=0)) gone).1.all=b2.all
    rw[h3.all,ha4,ha2,hq.all]
   ·show((a.dT gone i).1.dn (a.dT gone i).2.2 (decide (i=0)) gone).1.f=b2.f
    rw[hfx,hf2,hq.f]
   ·exact absurd (hfx.symm.trans hx) hf
   ·exact absurd (hfx.symm.trans hx) hf
theorem uM (last:Nat) (c:Q) (nm:ByteArray) (hc:c.f≠none):∀ i,∃ c' nm' l',fL (ba last) ej i (CS.rd c,nm)=((CS.rd c',nm'),l')∧c'.all=c.all∧c'.f=c.f:=by
 intro i
 induction i with
 | zero=>exact⟨c,nm,[],rfl,rfl,rfl⟩
 | succ i ih =>
  obtain⟨c',nm',l',e,h1,h2⟩:=ih
  obtain⟨c2,f',e2,ha2,hf2⟩:=fO c' nm' last (by rw[h2];exact hc)
  refine⟨c2,f'.name,l'++[f'],?_,by rw[ha2,h1],by rw[hf2,h2]⟩
  simp only[fL]
  rw[e]
  simp only[ba]
  rw[e2]
theorem pb (c:Q) (before:ByteArray) (first gone:Bool) (hb0:first=true→before=⟨#[]⟩) (hc:c.f≠none):(c.dn before first gone).1.f=c.f∧(c.dn before first gone).1.all=c.all:=by
 obtain⟨c1,g1,e3,h3,_⟩:=(QL.refl c).named before first gone hb0
 obtain⟨c2,g2,e4,ha4,hf4⟩:=fO c before (if gone then 3 else 2) hc
 rw[e4] at e3
 have e5:c2=c1:=by
  have:=congrArg Prod.fst e3
  injection this
 subst e5
 exact⟨by rw[h3.f,hf4],by rw[h3.all,ha4]⟩
theorem oS (a:Q) (gone:Bool) (i:Nat) (hf:(a.dT gone i).1.f≠none):∀ k,(a.dT gone (i+k)).1.f=(a.dT gone i).1.f∧(a.dT gone (i+k)).1.all=(a.dT gone i).1.all:=by
 intro k
 induction k with
 | zero=>exact⟨rfl,rfl⟩
 | succ k ih =>
  have h:=pb (a.dT gone (i+k)).1 (a.dT gone (i+k)).2.2 (decide (i+k=0)) gone (fun h0=>by
   have h1:i+k=0:=of_decide_eq_true h0
   rw[h1]
   rfl) (by rw[ih.1];exact hf)
  exact⟨h.1.trans ih.1,h.2.trans ih.2⟩
theorem QL.rounds {a b:Q} (h:QL a b) (gone:Bool) (i n:Nat) (hin:i≤n) (hi:i=n∨(a.dT gone i).1.f≠none):∃ b' nm' l',fL (ba (if gone then 3 else 2)) ej n (CS.rd b,⟨#[]⟩)=((CS.rd b',nm'),l')∧QL (a.dT gone i).1 b'∧((a.dT gone i).1.f=none→l'=(a.dT gone i).2.1):=by
 obtain⟨b',nm',l',e,hq,hv⟩:=h.loop gone n
 rcases hi with rfl|hf
 ·exact⟨b',nm',l',e,hq,fun hx=>(hv hx).2⟩
 ·obtain⟨k,rfl⟩:∃ k,n=i+k:=⟨n - i,by omega⟩
  obtain⟨h1,h2⟩:=oS a gone i hf k
  exact⟨b',nm',l',e,⟨by rw[← h2,hq.all],by rw[← h1,hq.f],fun hx=>absurd hx hf⟩,fun hx=>absurd hx hf⟩
theorem QL.AJ {a b:Q} (h:QL a b) (nm:ByteArray) (m:Int) (rs:List (Int→Nat)) (v:Int) (n:Nat) (hn:(a.bT nm m).1.f=none→n=fb rs ((a.bT nm m).2:Int)):∃ b',(CS.rd b).cB nm m rs v=(.rd b',((a.bT nm m).2:Int))∧QL ((a.bT nm m).1.ah n) b':=by
 obtain⟨h1,h2⟩:=h.go nm 7 m (by decide)
 have e:(a.bT nm m).2=((b.named nm).go 7 m).2.1:=congrArg Prod.fst h2
 refine⟨_,?_,h1.ah (m:=fb rs (((b.named nm).go 7 m).2.1:Int)) (fun hf=>by rw[hn hf,e])⟩
 rw[e]
 rfl
theorem QL.fields {a b:Q} (h:QL a b) (used gone:Bool) (rs:List (Int→Nat)) (l0:List cA) (hrs:(a.bT ak 32).1.f=none→(if used=false∧0<(a.bT ak 32).2 then 4 else 0)=fb (eA 32 rs) ((a.bT ak 32).2:Int)) (i:Nat) (hin:i≤(a.bT ak 32).2) (hi:i=(a.bT ak 32).2∨((a.bu used).dT gone i).1.f≠none) :
  ∃ b' l',(CS.rd b).cK (if gone then 3 else 2) rs l0=(.rd b',l')∧QL ((a.bu used).dT gone i).1 b'∧(((a.bu used).dT gone i).1.f=none→l'=((a.bu used).dT gone i).2.1):=by
 obtain⟨b1,e1,h1⟩:=h.AJ ak 32 (eA 32 rs) 0 _ hrs
 obtain⟨b',nm',l',e,hq,hv⟩:=QL.rounds (a:=a.bu used) h1 gone i _ hin hi
 have ec:((b.named ak).go 7 32).2.1=(a.bT ak 32).2:=(congrArg Prod.fst (h.go ak 7 32 (by decide)).2).symm
 have hle:(a.bT ak 32).2≤32:=Q.fe a ak 32
 refine⟨b',l',?_,hq,hv⟩
 unfold CS.cK
 dsimp only
 rw[ec,Nat.min_eq_left hle,e1]
 dsimp only
 rw[e]
theorem QL.DY {a b:Q} (h:QL a b) (nm:ByteArray) (rs:List (Nat→Nat)) (v n:Nat) (hn:a.f=none→n=fb rs (a.bV nm 4).2):∃ b',(CS.rd b).bW nm rs v=(.rd b',(a.bV nm 4).2)∧QL ((a.bV nm 4).1.ah n) b':=by
 obtain⟨h1,h2⟩:=h.go nm 4 0 (by decide)
 have e:(a.bV nm 4).2=((b.named nm).go 4 0).2.1:=congrArg Prod.fst h2
 refine⟨((b.named nm).go 4 0).1.ah (fb rs ((b.named nm).go 4 0).2.1),by rw[e];rfl,?_⟩
 by_cases hf:a.f=none
 ·exact h1.ah (fun _=>by rw[hn hf,e])
 ·refine h1.ah (fun hx=>?_)
  have e2:(a.aj nm).go 4 0=(a,0,[]):=by
   have:a.aj nm=a:=by unfold Q.aj;rw[if_neg hf]
   rw[this,Q.go_given hf 4 0 (by decide)]
  have e3:(a.bV nm 4).1=a:=congrArg Prod.fst e2
  exact absurd (show a.f=none by rw[← e3];exact hx) hf
theorem QL.id {a b:Q} (h:QL a b) (v:Nat × Nat):∃ b',(CS.rd b).kB v=(.rd b',a.gid.2)∧QL a.gid.1 b':=by
 obtain⟨b1,e1,h1⟩:=h.u32 dk [] v.1 0 rfl
 rw[Q.aZ] at h1
 obtain⟨b2,e2,h2⟩:=h1.u32 eJ [] v.2 0 rfl
 rw[Q.aZ] at h2
 refine⟨b2,?_,h2⟩
 unfold CS.kB
 rw[e1]
 dsimp only
 rw[e2]
 rfl
theorem QL.code {a b:Q} (h:QL a b) (v:Nat):∃ b',(CS.rd b).qL v=(.rd b',a.gn.2)∧QL a.gn.1 b':=by
 obtain⟨b1,e1,h1⟩:=h.u8 fY [bI 0 10 5] v (if 10<(a.bV fY 1).2 then 5 else 0) (by
  generalize (a.bV fY 1).2=k
  simp only[fb,bI]
  by_cases hk:10<k <;> simp[hk])
 exact⟨b1,e1,h1⟩
theorem Q.sh (q:Q) (n m:Nat):(q.ah n).ah m=q.ah (if n=0 then m else n):=by
 by_cases hn:n=0
 ·subst hn
  rw[Q.aZ,if_pos rfl]
 ·rw[if_neg hn]
  by_cases hf:q.f=none
  ·have hne:(q.ah n).f≠none:=by unfold Q.ah;rw[if_neg (by simp[hn,hf])];simp
   generalize q.ah n=r at hne ⊢
   unfold Q.ah
   rw[if_pos (.inr hne)]
  ·have e:∀ k,q.ah k=q:=fun k=>by unfold Q.ah;rw[if_pos (.inr hf)]
   rw[e,e]
theorem Q.eK {q:Q} {n:Nat} (h:(q.ah n).f=none):q.f=none∧n=0:=by
 unfold Q.ah at h
 split at h
 ·rename_i hx
  exact⟨h,hx.resolve_right (fun hy=>hy h)⟩
 ·cases h
theorem Q.kv {q:Q} {nm:ByteArray} {k:Int} (hk:k≠10) (h:(q.bV nm k).1.f=none):q.f=none:=by
 by_cases hf:q.f=none
 ·exact hf
 ·have e1:q.aj nm=q:=by unfold Q.aj;rw[if_neg hf]
  have e2:(q.bV nm k).1=q:=by
   show((q.aj nm).go k 0).1=q
   rw[e1,Q.go_given hf k 0 hk]
  rw[e2] at h
  exact h
theorem Q.g0 {q:Q} {nm:ByteArray} {u:Bool} (h:(q.dw nm u).1.f=none):q.f=none:=Q.kv (by decide) (Q.eK h).1
theorem QL.Cp {a b:Q} (h:QL a b) (nm:ByteArray) (u:Bool) (m gN v:Nat) (hl:a.f=none→(if (if u=false∧(a.bV nm 4).2≠0 then 4 else 0)=0 then m else (if u=false∧(a.bV nm 4).2≠0 then 4 else 0))=bI 0 gN 4 (a.bV nm 4).2):∃ b',(CS.rd b).bW nm [bI 0 gN 4] v=(.rd b',(a.dw nm u).2)∧QL ((a.dw nm u).1.ah m) b':=by
 obtain⟨b1,e1,h1⟩:=h.DY nm [bI 0 gN 4] v _ (fun hf=>(hl hf).trans (by simp only[fb];split <;> simp_all))
 rw[← Q.sh] at h1
 exact⟨b1,e1,h1⟩
theorem QL.only {a b:Q} (h:QL a b) (nm:ByteArray) (u:Bool) (gN v:Nat) (hl:a.f=none→gN=if u then 4294967295 else 0):∃ b',(CS.rd b).bW nm [bI 0 gN 4] v=(.rd b',(a.dw nm u).2)∧QL (a.dw nm u).1 b':=by
 have hv:(a.bV nm 4).2<4294967296:=Q.go_lt _ 4 0
 obtain⟨b1,e1,h1⟩:=h.Cp nm u 0 gN v (fun hf=>by
  rw[hl hf]
  generalize (a.bV nm 4).2=k at hv ⊢
  unfold bI
  cases u
  ·by_cases hk:k=0 <;> simp[hk]
  ·simp
   omega)
 rw[Q.aZ] at h1
 exact⟨b1,e1,h1⟩
theorem Q.go_fz {q:Q} {k m:Int} (hk:k≠10) (h:(q.go k m).1.f=none):q.f=none:=by
 by_cases hf:q.f=none
 ·exact hf
 ·rw[Q.go_given hf k m hk] at h
  exact h
theorem Q.pV {q:Q} {nm:ByteArray} {lo m:Int} (h:(q.many nm lo m).1.f=none):q.f=none:=by
 have:=Q.go_fz (by decide) (Q.eK h).1
 rw[Q.ij] at this
 exact this
theorem Q.AP {q:Q} {nm:ByteArray} {m:Int} (h:(q.bT nm m).1.f=none):q.f=none:=by
 have:=Q.go_fz (q:=q.aj nm) (k:=7) (m:=m) (by decide) h
 rw[Q.ij] at this
 exact this
theorem Q.Au {q:Q} (h:q.gn.1.f=none):q.f=none:=Q.kv (by decide) (Q.eK h).1
theorem QL.AR {a b:Q} (h:QL a b) (gone:Bool) (last:Nat) (l0:List cA) (i:Nat) (hin:i≤(a.bT ak 32).2) (hi:i=(a.bT ak 32).2∨((a.bu false).dT gone i).1.f≠none) :
  ∃ b' l',(CS.rd b).cK last [lT 0 0 4] l0=(.rd b',l')∧QL ((a.bu false).dT gone i).1 b'∧(((a.bu false).dT gone i).1.f=none→l'=((a.bu false).dT gone i).2.1):=by
 have hle:(a.bT ak 32).2≤32:=Q.fe a ak 32
 obtain⟨b1,e1,h1⟩:=h.AJ ak 32 (eA 32 [lT 0 0 4]) 0 (if false=false∧0<(a.bT ak 32).2 then 4 else 0) (fun _=>by
  rw[zE]
  generalize (a.bT ak 32).2=n at hle ⊢
  rw[if_neg (show ¬ 32<n by omega)]
  by_cases hn:0<n
  ·rw[if_pos ⟨rfl,hn⟩,if_pos (by omega)]
  ·rw[if_neg (fun h=>hn h.2),if_neg (by omega)])
 have ec:((b.named ak).go 7 32).2.1=(a.bT ak 32).2:=(congrArg Prod.fst (h.go ak 7 32 (by decide)).2).symm
 have eg:(a.bT ak 32).1.ah (if false=false∧0<(a.bT ak 32).2 then 4 else 0)=a.bu false:=rfl
 have e0:(CS.rd b).cK last [lT 0 0 4] l0=((fL (ba last) ej (a.bT ak 32).2 (CS.rd b1,⟨#[]⟩)).1.1,(fL (ba last) ej (a.bT ak 32).2 (CS.rd b1,⟨#[]⟩)).2):=by
  unfold CS.cK
  dsimp only
  rw[ec,Nat.min_eq_left hle,e1]
 rw[e0]
 by_cases hn:0<(a.bT ak 32).2
 ·have hf:(a.bu false).f≠none:=by
   intro hx
   have:=(Q.eK (eg ▸ hx)).2
   rw[if_pos ⟨rfl,hn⟩] at this
   cases this
  have hf1:b1.f≠none:=by rw[← h1.f,eg];exact hf
  obtain⟨c',nm',l',e2,ha,hc⟩:=uM last b1 ⟨#[]⟩ hf1 (a.bT ak 32).2
  have hs:=oS (a.bu false) gone 0 hf i
  rw[Nat.zero_add] at hs
  have hs1:((a.bu false).dT gone i).1.f=(a.bu false).f:=hs.1
  have hs2:((a.bu false).dT gone i).1.all=(a.bu false).all:=hs.2
  rw[e2]
  exact⟨c',l',rfl,⟨by rw[hs2,ha,← h1.all,eg],by rw[hs1,hc,← h1.f,eg],fun hx=>absurd (hs1.symm.trans hx) hf⟩,fun hx=>absurd (hs1.symm.trans hx) hf⟩
 ·have hz:(a.bT ak 32).2=0:=by omega
  have hi0:i=0:=by omega
  subst hi0
  rw[hz]
  exact⟨b1,[],rfl,eg ▸ h1,fun _=>rfl⟩
theorem DI {lo hi n v:Nat} (hn:n≠0) (h:bI lo hi n v=0):lo≤v∧v≤hi:=by
 unfold bI at h
 split at h
 ·exact absurd h hn
 ·omega
theorem jY {P:Nat→Prop} (h1:P 1) (h2:P 2) (h3:P 3) (h4:P 4) (h5:P 5) (h6:P 6) (h7:P 7) (n:Nat) (hl:1≤n) (hh:n≤7):P n:=by
 rcases(by omega:n=1∨n=2∨n=3∨n=4∨n=5∨n=6∨n=7) with rfl|rfl|rfl|rfl|rfl|rfl|rfl <;> assumption
theorem qa (op:Nat) (h1:1≤op) (h7:op≤7):(aW op).1=(if (us op).1 then 4294967295 else 0)∧(aW op).2.2.1=(if (us op).2.2.1 then 4294967295 else 0)∧(aW op).2.2.2.1=(if (us op).2.2.1 then 4294967295 else 0):=by
 revert op
 exact fun op h1 h7=>jY (P:=fun op=>(aW op).1=(if (us op).1 then 4294967295 else 0)∧(aW op).2.2.1=(if (us op).2.2.1 then 4294967295 else 0)∧(aW op).2.2.2.1=(if (us op).2.2.1 then 4294967295 else 0)) (by decide) (by decide) (by decide) (by decide) (by decide) (by decide) (by decide) op h1 h7
theorem Ad (op ve:Nat) (hv:ve<4294967296) (h1:1≤op) (h7:op≤7):(if (if (us op).2.1=false∧ve≠0 then 4 else 0)=0 then (if op=6∧1<ve then 4 else 0) else (if (us op).2.1=false∧ve≠0 then 4 else 0))=bI 0 (aW op).2.1 4 ve:=by
 have key:∀ (u:Bool) (gN:Nat) (six:Bool),(us op).2.1=u→(aW op).2.1=gN→decide (op=6)=six→(u=true→gN=if six then 1 else 4294967295)→(u=false→gN=0∧six=false)→(if (if (us op).2.1=false∧ve≠0 then 4 else 0)=0 then (if op=6∧1<ve then 4 else 0) else (if (us op).2.1=false∧ve≠0 then 4 else 0))=bI 0 (aW op).2.1 4 ve:=by
  intro u gN six eu el es ht hf
  rw[eu,el]
  unfold bI
  cases u
  ·obtain⟨rfl,rfl⟩:=hf rfl
   have h6:¬ op=6:=of_decide_eq_false es
   by_cases hz:ve=0
   ·subst hz
    simp
   ·have hp:0<ve:=by omega
    simp[hz,hp]
  ·have hl:=ht rfl
   rw[if_neg (show ¬ (true=false∧ve≠0) from fun h=>by cases h.1),if_pos rfl]
   cases six
   ·have h6:¬ op=6:=of_decide_eq_false es
    rw[if_neg (fun h=>h6 h.1),hl,if_neg (by simp;omega)]
   ·have h6:op=6:=of_decide_eq_true es
    rw[hl]
    by_cases hz:1<ve
    ·rw[if_pos ⟨h6,hz⟩,if_pos (.inr hz)]
    ·rw[if_neg (fun h=>hz h.2),if_neg (by simp;omega)]
 refine jY (P:=fun o=>op=o→_) ?_ ?_ ?_ ?_ ?_ ?_ ?_ op h1 h7 rfl
 all_goals
  intro ho
  subst ho
 ·exact key false 0 false (by decide) (by decide) (by decide) (by decide) (by decide)
 ·exact key true 4294967295 false (by decide) (by decide) (by decide) (by decide) (by decide)
 ·exact key true 4294967295 false (by decide) (by decide) (by decide) (by decide) (by decide)
 ·exact key true 4294967295 false (by decide) (by decide) (by decide) (by decide) (by decide)
 ·exact key false 0 false (by decide) (by decide) (by decide) (by decide) (by decide)
 ·exact key true 1 true (by decide) (by decide) (by decide) (by decide) (by decide)
 ·exact key false 0 false (by decide) (by decide) (by decide) (by decide) (by decide)
theorem BD (op:Nat):((us op).2.2.2.1=true∧(aW op).2.2.2.2.1=32∧(aW op).2.2.2.2.2.2=(if decide (op=2) then 3 else 2))∨((us op).2.2.2.1=false∧(aW op).2.2.2.2.1=0):=by
 by_cases h:1≤op∧op≤7
 ·exact jY (P:=fun op=>((us op).2.2.2.1=true∧(aW op).2.2.2.2.1=32∧(aW op).2.2.2.2.2.2=(if decide (op=2) then 3 else 2))∨((us op).2.2.2.1=false∧(aW op).2.2.2.2.1=0)) (by decide) (by decide) (by decide) (by decide) (by decide) (by decide) (by decide) op h.1 h.2
 ·right
  unfold us aW
  have h1:¬ op=1:=by omega
  have h2:¬ op=2:=by omega
  have h3:¬ op=3:=by omega
  have h4:¬ op=4:=by omega
  have h5:¬ op=5:=by omega
  have h6:¬ op=6:=by omega
  have h7:¬ op=7:=by omega
  simp[h1,h2,h3,h4,h5,h6,h7]
theorem AX (op:Nat):((us op).2.2.2.2=true∧(aW op).2.2.2.2.2.1=64)∨((us op).2.2.2.2=false∧(aW op).2.2.2.2.2.1=0):=by
 by_cases h:1≤op∧op≤7
 ·exact jY (P:=fun op=>((us op).2.2.2.2=true∧(aW op).2.2.2.2.2.1=64)∨((us op).2.2.2.2=false∧(aW op).2.2.2.2.2.1=0)) (by decide) (by decide) (by decide) (by decide) (by decide) (by decide) (by decide) op h.1 h.2
 ·right
  unfold us aW
  have h1:¬ op=1:=by omega
  have h2:¬ op=2:=by omega
  have h3:¬ op=3:=by omega
  have h4:¬ op=4:=by omega
  have h5:¬ op=5:=by omega
  have h6:¬ op=6:=by omega
  have h7:¬ op=7:=by omega
  simp[h1,h2,h3,h4,h5,h6,h7]
theorem QL.request {a b:Q} (h:QL a b) (i:Nat) (hok:a.sP i):∃ b' v',(CS.rd b).bp jD=(.rd b',v')∧QL (a.sQ i) b'∧((a.sQ i).f=none→v'=a.gK i):=by
 obtain⟨b1,e1,h1⟩:=h.id (jD.cl,jD.nu)
 obtain⟨b2,e2,h2⟩:=h1.u32 ir [] jD.ac 0 rfl
 rw[Q.aZ] at h2
 have h2:QL a.r2.1 b2:=h2
 obtain⟨b3,e3,h3⟩:=h2.u8 xI [bI 1 7 5] jD.op (bI 1 7 5 a.r3.2) (by show bI 1 7 5 a.r3.2=fb [bI 1 7 5] a.r3.2;simp only[fb];split <;> simp_all)
 have h3:QL a.DF b3:=h3
 have hop:a.DF.f=none→1≤a.r3.2∧a.r3.2≤7:=fun hf=>DI (by decide) (Q.eK hf).2
 obtain⟨b4,e4,h4⟩:=h3.only cS (us a.r3.2).1 (aW a.r3.2).1 jD.re (fun hf=>(qa _ (hop hf).1 (hop hf).2).1)
 have h4:QL a.r4.1 b4:=h4
 obtain⟨b5,e5,h5⟩:=h4.Cp cg (us a.r3.2).2.1 (if a.r3.2=6∧1<a.r5.2 then 4 else 0) (aW a.r3.2).2.1 jD.ve (fun hf=>by
  have hg:=hop (Q.g0 hf)
  exact Ad a.r3.2 (a.r4.1.bV cg 4).2 (Q.go_lt _ 4 0) hg.1 hg.2)
 have h5:QL a.Dv b5:=h5
 have hop5:a.Dv.f=none→1≤a.r3.2∧a.r3.2≤7:=fun hf=>hop (Q.g0 (Q.g0 (Q.eK hf).1))
 obtain⟨b6,e6,h6⟩:=h5.only jr (us a.r3.2).2.2.1 (aW a.r3.2).2.2.1 jD.wa (fun hf=>(qa _ (hop5 hf).1 (hop5 hf).2).2.1)
 have h6:QL a.r6.1 b6:=h6
 obtain⟨b7,e7,h7⟩:=h6.only gw (us a.r3.2).2.2.1 (aW a.r3.2).2.2.2.1 jD.ow (fun hf=>(qa _ (hop5 (Q.g0 hf)).1 (hop5 (Q.g0 hf)).2).2.2)
 have h7:QL a.r7.1 b7:=h7
 obtain⟨b8,l8,e8,h8,hv8⟩:∃ b8 l8,(CS.rd b7).cK (aW a.r3.2).2.2.2.2.2.2 [lT 0 (aW a.r3.2).2.2.2.2.1 4] jD.fs=(.rd b8,l8)∧QL (a.r8 i).1 b8∧((a.r8 i).1.f=none→l8=(a.r8 i).2.1):=by
  unfold Q.sP at hok
  unfold Q.r8 at hok ⊢
  rcases BD a.r3.2 with ⟨eu,em,el⟩|⟨eu,em⟩
  ·rw[eu] at hok ⊢
   rw[em,el]
   have hle:(a.r7.1.bT ak 32).2≤32:=Q.fe _ ak 32
   exact h7.fields true (decide (a.r3.2=2)) [lT 0 32 4] jD.fs (fun _=>by
    rw[zE,if_neg (fun h=>by cases h.1),if_neg (by omega),if_neg (by omega)]) i hok.1 hok.2
  ·rw[eu] at hok ⊢
   rw[em]
   exact h7.AR (decide (a.r3.2=2)) _ jD.fs i hok.1 hok.2
 have hmx:(a.r9 i).2.length≤64:=(a.r8 i).1.dt eh 0 64
 obtain⟨b9,e9,h9⟩:=h8.str eh 0 64 [fun v=>dj 0 64 v.size,Ce (aW a.r3.2).2.2.2.2.2.1] jD.rs (if (us a.r3.2).2.2.2.2=false∧0<(a.r9 i).2.length then 4 else 0) (fun _=>by
  show _=fb _ (strOf (a.r9 i).2)
  rw[AN,dJ]
  generalize (a.r9 i).2.length=n at hmx ⊢
  have hz:dj 0 64 n=0:=by
   unfold dj
   rw[if_neg (by omega),if_neg (by omega)]
  rw[hz,if_pos rfl]
  rcases AX a.r3.2 with ⟨eu,em⟩|⟨eu,em⟩
  ·rw[eu,em,if_neg (fun h=>by cases h.1),if_neg (by omega)]
  ·rw[eu,em]
   by_cases hn:0<n
   ·rw[if_pos ⟨rfl,hn⟩,if_pos (by omega)]
   ·rw[if_neg (fun h=>hn h.2),if_neg (by omega)]) (fun hl=>absurd hl (Int.not_lt.2 (Int.natCast_nonneg _)))
 have h9:QL (a.sQ i) b9:=h9
 have q1:(CS.rd b).q1 jD=(.rd b1,a.gid.2):=e1
 have q2:(CS.rd b).q2 jD=(.rd b2,a.r2.2):=by unfold CS.q2;rw[q1];exact e2
 have q3:(CS.rd b).q3 jD=(.rd b3,a.r3.2):=by unfold CS.q3;rw[q2];exact e3
 have q4:(CS.rd b).q4 jD=(.rd b4,a.r4.2):=by unfold CS.q4;rw[q3];exact e4
 have q5:(CS.rd b).q5 jD=(.rd b5,a.r5.2):=by unfold CS.q5;rw[q4,q3];exact e5
 have q6:(CS.rd b).q6 jD=(.rd b6,a.r6.2):=by unfold CS.q6;rw[q5,q3];exact e6
 have q7:(CS.rd b).q7 jD=(.rd b7,a.r7.2):=by unfold CS.q7;rw[q6,q3];exact e7
 have q8:(CS.rd b).q8 jD=(.rd b8,l8):=by unfold CS.q8;rw[q7,q3];exact e8
 have q9:(CS.rd b).q9 jD=(.rd b9,strOf (a.r9 i).2):=by unfold CS.q9;rw[q8,q3];exact e9
 refine⟨b9,⟨a.gid.2.1,a.gid.2.2,a.r2.2,a.r3.2,a.r4.2,a.r5.2,a.r6.2,a.r7.2,l8,strOf (a.r9 i).2⟩,?_,h9,fun hf=>?_⟩
 ·unfold CS.bp
  rw[q1,q2,q3,q4,q5,q6,q7,q8,q9]
 ·have hf8:(a.r8 i).1.f=none:=Q.pV (Q.eK hf).1
  rw[hv8 hf8]
  rfl
theorem QL.event {a b:Q} (h:QL a b) (i:Nat) (hok:a.v2.1.sP i):∃ b' v',(CS.rd b).bJ uA=(.rd b',v')∧QL (a.v5 i).1 b'∧((a.v5 i).1.f=none→v'=a.sJ i):=by
 obtain⟨b1,e1,h1⟩:=h.u32 iu [] uA.pl 0 rfl
 rw[Q.aZ] at h1
 have h1:QL a.v2.1 b1:=h1
 obtain⟨b2,v2,e2,h2,hv2⟩:=h1.request i hok
 obtain⟨b3,e3,h3⟩:=h2.code uA.co
 have h3:QL (a.v4 i).1 b3:=h3
 have hmx:(a.v5 i).2.length≤32:=(a.v4 i).1.dt eb 1 32
 obtain⟨b4,e4,h4⟩:=h3.DB eb 1 32 [fun v=>dj 1 32 v.length] uA.dg 0 (fun hf=>by
  have hlo:(1:Int)≤(((a.v5 i).2.length:Nat):Int):=Q.pO hf
  show 0=fb _ (a.v5 i).2
  have hz:dj 1 32 (a.v5 i).2.length=0:=by
   unfold dj
   rw[if_neg (by omega),if_neg (by omega)]
  simp only[fb]
  rw[if_pos hz]) (fun hl=>by
  show fb _ (a.v5 i).2=4
  have hl:(((a.v5 i).2.length:Nat):Int)<1:=hl
  have hz:dj 1 32 (a.v5 i).2.length=4:=by
   unfold dj
   rw[if_neg (by omega),if_pos hl]
  simp only[fb]
  rw[if_neg (by rw[hz];decide)]
  exact hz)
 rw[Q.aZ] at h4
 have h4:QL (a.v5 i).1 b4:=h4
 have q1:(CS.rd b).e1 uA=(.rd b1,a.v2.2):=e1
 have q2:(CS.rd b).e2 uA=(.rd b2,v2):=by unfold CS.e2;rw[q1];exact e2
 have q3:(CS.rd b).e3 uA=(.rd b3,(a.v4 i).2):=by unfold CS.e3;rw[q2];exact e3
 have q4:(CS.rd b).e4 uA=(.rd b4,(a.v5 i).2):=by unfold CS.e4;rw[q3];exact e4
 refine⟨b4,⟨a.v2.2,v2,(a.v4 i).2,(a.v5 i).2⟩,?_,h4,fun hf=>?_⟩
 ·unfold CS.bJ
  rw[q1,q2,q3,q4]
 ·have hf2:(a.v2.1.sQ i).f=none:=Q.Au (Q.pV hf)
  rw[hv2 hf2]
  rfl
end Go.Proofs.YtdcopmkgmbiikaaGreatDoor
