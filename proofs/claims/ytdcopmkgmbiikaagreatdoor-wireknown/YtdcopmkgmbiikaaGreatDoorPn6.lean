import Derived.Test.YtdcopmkgmbiikaaGreatDoorPn5
import Derived.Deep.Cut
import Derived.Test.YtdcopmkgmbiikaaGreatDoorPn4
import Derived.Test.YtdcopmkgmbiikaaGreatDoorPn1
import Derived.Test.YtdcopmkgmbiikaaGreatDoorPn2
set_option maxRecDepth 100000
set_option maxHeartbeats 4000000
set_option linter.unusedSimpArgs false
namespace Go.Proofs.YtdcopmkgmbiikaaGreatDoor
open Go.RowKit
theorem oS {w:World} {base e z n:Nat} {v:Value} {xs:List Value} (h:w.ownsRow base e z v n xs) (hn:0<n):∃ g cap,v = .slice (some ⟨g,0,none⟩) n cap∧base≤g∧∀ i u,xs[i]?=some u→w.cell? ⟨g,i,none⟩=some u:=by
 rcases h.2 with ⟨rfl,e⟩|⟨g,cap,cur,rfl,hb,_⟩
 ·omega
 ·refine⟨g,cap,rfl,hb,fun i u hu=>?_⟩
  have hi:=(List.getElem?_eq_some_iff.1 hu).1
  rw[h.cellAt i (by have:=h.1;omega)]
  exact hu
theorem xa {w:World} {base e z n:Nat} {v:Value} {xs:List Value} (h:w.ownsRow base e z v n xs):∃ xo xc,v = .slice xo n xc∧n≤xc∧(0<n→∃ g,xo=some ⟨g,0,none⟩∧∀ i u,xs[i]?=some u→w.cell? ⟨g,i,none⟩=some u):=by
 rcases h.2 with ⟨e,h0⟩|⟨g,cap,cur,e,hb,_,hc,_⟩
 ·exact⟨none,0,by rw[e,h0],by omega,fun h=>by omega⟩
 ·refine⟨some ⟨g,0,none⟩,cap,e,hc,fun hn=>⟨g,rfl,fun i u hu=>?_⟩⟩
  obtain⟨g',cap',e',_,h2⟩:=oS h hn
  rw[e] at e'
  cases e'
  exact h2 i u hu
theorem tT {w:World} {base:Nat} {x:Value} {l:List Nat} (h:w.ownsRow base 5 1 x l.length (cellsOf l)) (hn:l.length<9223372036854775808):nG w x l:=⟨bR h,fun g o m c e=>(h.lt g (by rw[e];rfl)).2,hn⟩
theorem iD.pci {w:World} {base:Nat} {x:Value} {ps:List (List Nat)} {F:Nat→Prop} (h:iD w base x ps F) (hn:ps.length<9223372036854775808) (hp:∀ p∈ps,p.length<9223372036854775808):∃ xo xc,x = .slice xo ps.length xc∧Cm w xo xc ps:=by
 obtain⟨us,h1,h2,h3,_⟩:=h.us
 obtain⟨xo,xc,e,hc,hx⟩:=xa h2
 refine⟨xo,xc,e,hc,hn,fun j p hpj=>?_⟩
 have hj:=(List.getElem?_eq_some_iff.1 hpj).1
 obtain⟨g,rfl,hg⟩:=hx (by omega)
 obtain⟨u,hu⟩:∃ u,us[j]?=some u:=⟨_,List.getElem?_eq_getElem (by omega)⟩
 exact⟨g,0,u,rfl,by rw[Nat.zero_add];exact hg j u hu,tT (h3 j u p hu hpj) (hp p (List.mem_of_getElem? hpj))⟩
theorem Bt (q:Q) (m:Int):(q.go 6 m).2.2.length≤m.toNat:=by
 by_cases h:(q.go 6 m).1.f=none
 ·obtain⟨_,_,_,_,h4,h5⟩:=Q.go_byt h
  rw[h4,List.length_take]
  omega
 ·have:(q.go 6 m).2.2=[]:=by
   unfold Q.go Q.step at h ⊢
   simp only[show ¬ (6:Int)=10 by decide,show ¬ (6:Int)=9 by decide,show ¬ (6:Int)=5 by decide,if_false,ne_eq,not_true,false_and,true_or,true_and] at h ⊢
   by_cases h0:q.f=none
   ·simp only[h0,not_true,if_false] at h ⊢
    split
    ·rfl
    ·split
     ·rfl
     ·split
      ·rfl
      ·rename_i h1 h2 h3
       simp[h1,h2,h3] at h
   ·simp[h0]
  rw[this]
  exact Nat.zero_le _
theorem qS (c:CS) (nm:ByteArray) (m:Int) (hm:m<9223372036854775808) (rs:List (List Nat→Nat)) (v:List Nat) (hv:v.length<9223372036854775808):(c.eR nm m rs v).2.length<9223372036854775808:=by
 cases c with
 | wr s=>exact hv
 | rd q =>
  have:=Bt (q.named nm) m
  show((q.named nm).go 6 m).2.2.length<_
  omega
theorem yr (l:List Nat):(bq l).2.1<4294967296∧(bq l).2.2.length<9223372036854775808:=⟨CS.kN _ _ _ _ (by decide),qS _ _ 32 (by decide) _ _ (by decide)⟩
theorem nI {α:Type} {each:CS→α→CS × α} {z:α} {P:α→Prop} (he:∀ c,P (each c z).2) (c:CS):∀ n,∀ x∈(bg each z n c).2,P x
 | 0,x,h=>by cases h
 | n+1,x,h=>by
  have h':x∈(bg each z n c).2++[(each (bg each z n c).1 z).2]:=h
  rcases List.mem_append.1 h' with h|h
  ·exact nI he c n x h
  ·simp at h
   subst h
   exact he _
theorem nV (l:List Nat):(bf l).2.length<9223372036854775808∧∀ p∈(bf l).2,p.length<9223372036854775808:=by
 obtain⟨q,e⟩:∃ q,(gg l).aE 6 = .rd q:=⟨_,rfl⟩
 unfold bf
 rw[e]
 show(bg (fun c v=>c.bA aW v) [] (min ((q.named bQ).go 7 (4096:Nat)).2.1 4096) ((CS.rd q).cv bQ (4096:Nat) (dU (4096:Nat) []) 0).1).2.length<_∧_
 refine⟨by rw[jE];omega,fun p hp=>?_⟩
 exact nI (P:=fun p:List Nat=>p.length<9223372036854775808) (fun c=>qS c aW 32 (by decide) _ _ (by decide)) _ _ p hp
theorem ai {P:Program} {ops:Array Oper} {rest:List Oper} {op:Oper} {a:Act} {w:World} {Q:Exit→Act→World→Prop} (hw:Region.wanted op (yielded ops a.tmps)=true) (ty:TypeId) (x:Operand) (ho:op.op = .load ty x)
  (b o:Nat) (hx:a.eval x = .pointer (some ⟨b,o,none⟩)) (cs:List Value) (d:TypeDesc) (hc:w.rangeAt b o cs)
  (hu:P.underlying ty=some d) (hd:d.isRow=true) (hi:(P.info? ty).map (·.size)=some cs.length)
  (h:wpList P ops Q rest (a.put op.dst (.agg cs.toArray)) w):wpList P ops Q (op::rest) a w:=
 wpList_step fun K hK=>by rw[if_pos hw];exact wp_load_mid ty x ho b o hx cs d hc hu hd hi (hK _ _ h)
theorem Tryz.uq (w:World):(binOp .eql 27 (.agg #[.int .u32 0,.int .u32 0]) (.agg #[.int .u32 0,.int .u32 0])).run Tryz.prog w = .ok (.bool true) w:=by kernel_rfl
theorem Tryz.zI (w:World):(binOp .neq 27 (.agg #[.int .u32 0,.int .u32 0]) (.agg #[.int .u32 0,.int .u32 0])).run Tryz.prog w = .ok (.bool false) w:=by kernel_rfl
theorem iV (w:World):Calls Tryz.prog 11 #[.slice none 0 0,.slice none 0 0] w fun e w'=>e = .returned (.bool true)∧Fr (fun _=>False) w w':=by
 refine(eM (.slice none 0 0) (.slice none 0 0) [] [] w (.inl ⟨rfl,rfl⟩) (.inl ⟨rfl,rfl⟩) (by decide)).mono ?_
 rintro e w' ⟨he,hn⟩
 exact⟨he.trans (by rw[show eE [] []=true from rfl]),Fr.gK hn⟩
theorem lB (w:World):Calls Tryz.prog 83 #[.slice none 0 0,.slice none 0 0] w fun e w'=>e = .returned (.bool true)∧Fr (fun _=>False) w w':=by
 go_enter Tryz.func83,Tryz.ntmps83
 go_wp2_with fail
 go_loopw [5] (fun iv wr=>iv = .int .i64 0∧wr=w) (fun _ _=>0)
 case atStart=>exact⟨rfl,rfl⟩
 case round =>
  obtain⟨rfl,rfl⟩:=hrel
  go_wp2_with fail
  go_ret
  exact⟨rfl,Fr.refl _ _⟩
theorem fK (w:World):Calls Tryz.prog 40 #[.agg #[.int .u32 0,.int .u32 0,.int .u32 0,.int .u8 0,.int .u32 0,.int .u32 0,.int .u32 0,.int .u32 0,.slice none 0 0,.string ⟨#[]⟩],.agg #[.int .u32 0,.int .u32 0,.int .u32 0,.int .u8 0,.int .u32 0,.int .u32 0,.int .u32 0,.int .u32 0,.slice none 0 0,.string ⟨#[]⟩]] w fun e w'=>e = .returned (.bool true)∧Fr (fun _=>False) w w':=by
 have h1:=Tryz.uq
 go_enter Tryz.func40,Tryz.ntmps40
 go_wp2_with fail
 refine(lB _).mono ?_
 rintro e w' ⟨rfl,hf⟩
 have HF:=ae ((aY w _ _).trans hf (fun _ _ h=>h))
 clear hf
 go_wp2_with fail
 go_ret
 exact⟨rfl,aa HF⟩
theorem gP (w:World):Calls Tryz.prog 41 #[.agg #[.int .u32 0,.int .u32 0,.int .u8 0,.int .u32 0,.int .u32 0,.slice none 0 0,.slice none 0 0],.agg #[.int .u32 0,.int .u32 0,.int .u8 0,.int .u32 0,.int .u32 0,.slice none 0 0,.slice none 0 0]] w fun e w'=>e = .returned (.bool true)∧Fr (fun _=>False) w w':=by
 have h1:=Tryz.zI
 go_enter Tryz.func41,Tryz.ntmps41
 go_wp2_with fail
 refine(lB _).mono ?_
 rintro e w' ⟨rfl,hf⟩
 have ca:w'.cell? ⟨w.heap.size,6,none⟩=some (.slice none 0 0):=(hf.cell (p:=⟨w.heap.size,6,none⟩) (by simp;omega) (fun h=>h)).trans (by rw[World.cell?_alloc_past _ _ _ (by simp),World.cell?_alloc_at _ _ _ _ rfl];rfl)
 have cb:w'.cell? ⟨w.heap.size+1,6,none⟩=some (.slice none 0 0):=(hf.cell (p:=⟨w.heap.size+1,6,none⟩) (by simp) (fun h=>h)).trans (by rw[World.cell?_alloc_at _ _ _ _ (by simp)];rfl)
 have HF:=ae ((aY w _ _).trans hf (fun _ _ h=>h))
 clear hf
 go_wp2_with fail
 go_loopw [5] (fun iv wr=>iv = .int .i64 0∧wr=w') (fun _ _=>0)
 case atStart=>exact⟨rfl,rfl⟩
 case round =>
  obtain⟨rfl,rfl⟩:=hrel
  go_wp2_with fail
  go_ret
  exact⟨rfl,aa HF⟩
theorem jD (w:World):Calls Tryz.prog 43 #[.agg #[.int .u32 0,.slice none 0 0],.agg #[.int .u32 0,.slice none 0 0]] w fun e w'=>e = .returned (.bool true)∧Fr (fun _=>False) w w':=by
 go_enter Tryz.func43,Tryz.ntmps43
 go_wp2_with fail
 refine(iV _).mono ?_
 rintro e w' ⟨rfl,hf⟩
 have HF:=ae ((aY w _ _).trans hf (fun _ _ h=>h))
 clear hf
 go_wp2_with fail
 go_ret
 exact⟨rfl,aa HF⟩
theorem jc (w:World):Calls Tryz.prog 42 #[.agg #[.int .u32 0,.int .u32 0,.int .u32 0,.int .u32 0,.int .u8 0,.int .u32 0,.int .u32 0,.int .u32 0,.int .u32 0,.slice none 0 0,.string ⟨#[]⟩,.int .u8 0,.slice none 0 0],.agg #[.int .u32 0,.int .u32 0,.int .u32 0,.int .u32 0,.int .u8 0,.int .u32 0,.int .u32 0,.int .u32 0,.int .u32 0,.slice none 0 0,.string ⟨#[]⟩,.int .u8 0,.slice none 0 0]] w fun e w'=>e = .returned (.bool true)∧Fr (fun _=>False) w w':=by
 go_enter Tryz.func42,Tryz.ntmps42
 go_wp2_with fail
 refine(fK _).mono ?_
 rintro e w1 ⟨rfl,hf⟩
 have a11:w1.cell? ⟨w.heap.size,11,none⟩=some (.int .u8 0):=(hf.cell (p:=⟨w.heap.size,11,none⟩) (by simp;omega) (fun h=>h)).trans (by rw[World.cell?_alloc_past _ _ _ (by simp),World.cell?_alloc_at _ _ _ _ rfl];rfl)
 have a12:w1.cell? ⟨w.heap.size,12,none⟩=some (.slice none 0 0):=(hf.cell (p:=⟨w.heap.size,12,none⟩) (by simp;omega) (fun h=>h)).trans (by rw[World.cell?_alloc_past _ _ _ (by simp),World.cell?_alloc_at _ _ _ _ rfl];rfl)
 have b11:w1.cell? ⟨w.heap.size+1,11,none⟩=some (.int .u8 0):=(hf.cell (p:=⟨w.heap.size+1,11,none⟩) (by simp) (fun h=>h)).trans (by rw[World.cell?_alloc_at _ _ _ _ (by simp)];rfl)
 have b12:w1.cell? ⟨w.heap.size+1,12,none⟩=some (.slice none 0 0):=(hf.cell (p:=⟨w.heap.size+1,12,none⟩) (by simp) (fun h=>h)).trans (by rw[World.cell?_alloc_at _ _ _ _ (by simp)];rfl)
 have HF:=ae ((aY w _ _).trans hf (fun _ _ h=>h))
 clear hf
 go_wp2_with fail
 refine(iV _).mono ?_
 rintro e w2 ⟨rfl,hf2⟩
 have HF2:=ae ((aa HF).trans hf2 (fun _ _ h=>h))
 clear hf2
 go_wp2_with fail
 go_ret
 exact⟨rfl,aa HF2⟩
theorem aD {W:World} {g t o:Nat} {cs ps:List Value} (hb:W.heap[g]?=some (.cells cs.toArray t)) (h:(cs.drop o).take ps.length=ps):W.rangeAt g o ps:=fun j u hu=>ag hb (by
 have hj:=(List.getElem?_eq_some_iff.1 hu).1
 rw[← h,List.getElem?_take_of_lt hj,List.getElem?_drop] at hu
 simpa using hu)
theorem iE (w:World):Calls Tryz.prog 44 #[.agg rB.toArray,.agg rB.toArray] w fun e w'=>e = .returned (.bool true)∧Fr (fun _=>False) w w':=by
 have h1:=Tryz.uq
 have hb1:(w.alloc (.cells rB.toArray 42)).heap.size=w.heap.size+1:=by simp
 have HB:Hid (∀ V:World,Fr (fun _=>False) ((w.alloc (.cells rB.toArray 42)).alloc (.cells rB.toArray 42)) V→V.heap[w.heap.size]?=some (.cells rB.toArray 42)∧V.heap[w.heap.size+1]?=some (.cells rB.toArray 42)):=ae (fun V hf=>⟨(hf.block w.heap.size (by simp;omega) (fun h=>h)).trans ((Below.heap_alloc _ _ _ (by simp)).trans (heap_alloc_new _ _)),(hf.block (w.heap.size+1) (by simp) (fun h=>h)).trans (by rw[← hb1];exact heap_alloc_new _ _)⟩)
 have HF0:=ae (aY w (.cells rB.toArray 42) (.cells rB.toArray 42))
 clear hb1
 go_enter Tryz.func44,Tryz.ntmps44
 go_upto_region 1 with fail
 obtain⟨W0,hW0⟩:∃ W0,(w.alloc (.cells rB.toArray 42)).alloc (.cells rB.toArray 42)=W0:=⟨_,rfl⟩
 have hW0':=hW0
 unfold rB at hW0'
 rw[hW0] at HB HF0
 first|rw[hW0']|rw[hW0]
 clear hW0 hW0'
 obtain⟨b0,b1⟩:=(aa HB) W0 (Fr.refl _ _)
 have p0:W0.cell? ⟨w.heap.size,0,none⟩=some (.int .u8 0):=ag b0 rfl
 have p11:W0.cell? ⟨w.heap.size,11,none⟩=some (.int .u32 0):=ag b0 rfl
 have p12:W0.cell? ⟨w.heap.size,12,none⟩=some (.int .u32 0):=ag b0 rfl
 have p20:W0.cell? ⟨w.heap.size,20,none⟩=some (.int .u8 0):=ag b0 rfl
 have p34:W0.cell? ⟨w.heap.size,34,none⟩=some (.int .u32 0):=ag b0 rfl
 have q0:W0.cell? ⟨w.heap.size+1,0,none⟩=some (.int .u8 0):=ag b1 rfl
 have q11:W0.cell? ⟨w.heap.size+1,11,none⟩=some (.int .u32 0):=ag b1 rfl
 have q12:W0.cell? ⟨w.heap.size+1,12,none⟩=some (.int .u32 0):=ag b1 rfl
 have q20:W0.cell? ⟨w.heap.size+1,20,none⟩=some (.int .u8 0):=ag b1 rfl
 have q34:W0.cell? ⟨w.heap.size+1,34,none⟩=some (.int .u32 0):=ag b1 rfl
 have RA:Hid (W0.rangeAt w.heap.size 1 [.int .u32 0,.int .u32 0,.int .u32 0,.int .u8 0,.int .u32 0,.int .u32 0,.int .u32 0,.int .u32 0,.slice none 0 0,.string ⟨#[]⟩]):=ae (aD b0 rfl)
 have RB:Hid (W0.rangeAt (w.heap.size+1) 1 [.int .u32 0,.int .u32 0,.int .u32 0,.int .u8 0,.int .u32 0,.int .u32 0,.int .u32 0,.int .u32 0,.slice none 0 0,.string ⟨#[]⟩]):=ae (aD b1 rfl)
 clear b0 b1
 go_wp2_with (first|refine ai rfl 30 (.tmp 32) rfl (w.heap.size) 1 rfl _ _ (aa RA) Tryz.underlying30 rfl Tryz.bV ?_|refine ai rfl 30 (.tmp 34) rfl (w.heap.size+1) 1 rfl _ _ (aa RB) Tryz.underlying30 rfl Tryz.bV ?_)
 refine(fK _).mono ?_
 rintro e w1 ⟨rfl,hf1⟩
 obtain⟨b0,b1⟩:=(aa HB) w1 hf1
 have RA1:Hid (w1.rangeAt w.heap.size 13 [.int .u32 0,.int .u32 0,.int .u8 0,.int .u32 0,.int .u32 0,.slice none 0 0,.slice none 0 0]):=ae (aD b0 rfl)
 have RB1:Hid (w1.rangeAt (w.heap.size+1) 13 [.int .u32 0,.int .u32 0,.int .u8 0,.int .u32 0,.int .u32 0,.slice none 0 0,.slice none 0 0]):=ae (aD b1 rfl)
 have HF1:=ae hf1
 clear b0 b1 hf1
 go_wp2_with (first|refine ai rfl 33 (.tmp 39) rfl (w.heap.size) 13 rfl _ _ (aa RA1) Tryz.underlying33 rfl Tryz.dk ?_|refine ai rfl 33 (.tmp 41) rfl (w.heap.size+1) 13 rfl _ _ (aa RB1) Tryz.underlying33 rfl Tryz.dk ?_)
 refine(gP _).mono ?_
 rintro e w2 ⟨rfl,hf2⟩
 have hf02:=(aa HF1).trans hf2 (fun _ _ h=>h)
 obtain⟨b0,b1⟩:=(aa HB) w2 hf02
 have RA2:Hid (w2.rangeAt w.heap.size 21 [.int .u32 0,.int .u32 0,.int .u32 0,.int .u32 0,.int .u8 0,.int .u32 0,.int .u32 0,.int .u32 0,.int .u32 0,.slice none 0 0,.string ⟨#[]⟩,.int .u8 0,.slice none 0 0]):=ae (aD b0 rfl)
 have RB2:Hid (w2.rangeAt (w.heap.size+1) 21 [.int .u32 0,.int .u32 0,.int .u32 0,.int .u32 0,.int .u8 0,.int .u32 0,.int .u32 0,.int .u32 0,.int .u32 0,.slice none 0 0,.string ⟨#[]⟩,.int .u8 0,.slice none 0 0]):=ae (aD b1 rfl)
 have HF2:=ae hf02
 clear b0 b1 hf2 hf02
 go_wp2_with (first|refine ai rfl 35 (.tmp 46) rfl (w.heap.size) 21 rfl _ _ (aa RA2) Tryz.underlying35 rfl Tryz.dF ?_|refine ai rfl 35 (.tmp 48) rfl (w.heap.size+1) 21 rfl _ _ (aa RB2) Tryz.underlying35 rfl Tryz.dF ?_)
 refine(jc _).mono ?_
 rintro e w3 ⟨rfl,hf3⟩
 have HF3:=ae ((aa HF0).trans ((aa HF2).trans hf3 (fun _ _ h=>h)) (fun _ _ h=>h))
 clear hf3
 go_wp2_with fail
 go_ret
 exact⟨rfl,aa HF3⟩
theorem zk (w:World):Calls Tryz.prog 18 #[.agg cx.toArray,.agg cx.toArray] w fun e w'=>e = .returned (.bool true)∧Fr (fun _=>False) w w':=by
 have hb1:(w.alloc (.cells cx.toArray 44)).heap.size=w.heap.size+1:=by simp
 have HB:Hid (∀ V:World,Fr (fun _=>False) ((w.alloc (.cells cx.toArray 44)).alloc (.cells cx.toArray 44)) V→V.heap[w.heap.size]?=some (.cells cx.toArray 44)∧V.heap[w.heap.size+1]?=some (.cells cx.toArray 44)):=ae (fun V hf=>⟨(hf.block w.heap.size (by simp;omega) (fun h=>h)).trans ((Below.heap_alloc _ _ _ (by simp)).trans (heap_alloc_new _ _)),(hf.block (w.heap.size+1) (by simp) (fun h=>h)).trans (by rw[← hb1];exact heap_alloc_new _ _)⟩)
 have HF0:=ae (aY w (.cells cx.toArray 44) (.cells cx.toArray 44))
 clear hb1
 go_enter Tryz.func18,Tryz.ntmps18
 go_upto_region 1 with fail
 obtain⟨W0,hW0⟩:∃ W0,(w.alloc (.cells cx.toArray 44)).alloc (.cells cx.toArray 44)=W0:=⟨_,rfl⟩
 have hW0':=hW0
 unfold cx at hW0'
 rw[hW0] at HB HF0
 first|rw[hW0']|rw[hW0]
 clear hW0 hW0'
 obtain⟨b0,b1⟩:=(aa HB) W0 (Fr.refl _ _)
 have a36:W0.cell? ⟨w.heap.size,36,none⟩=some (.slice none 0 0):=ag b0 rfl
 have b36:W0.cell? ⟨w.heap.size+1,36,none⟩=some (.slice none 0 0):=ag b1 rfl
 have RA:Hid (W0.rangeAt w.heap.size 0 [.int .u32 0,.int .u32 0,.int .u32 0,.int .u8 0,.int .u32 0,.int .u32 0,.int .u32 0,.int .u32 0,.slice none 0 0,.string ⟨#[]⟩]):=ae (aD b0 rfl)
 have RB:Hid (W0.rangeAt (w.heap.size+1) 0 [.int .u32 0,.int .u32 0,.int .u32 0,.int .u8 0,.int .u32 0,.int .u32 0,.int .u32 0,.int .u32 0,.slice none 0 0,.string ⟨#[]⟩]):=ae (aD b1 rfl)
 clear b0 b1
 go_wp2_with fail
 go_loopw [5] (fun iv wr=>iv = .int .i64 0∧wr=W0) (fun _ _=>0)
 case atStart=>exact⟨rfl,rfl⟩
 case round =>
  obtain⟨rfl,rfl⟩:=hrel
  go_wp2_with (first|refine wpList_load_mid rfl 30 (.tmp 37) rfl (w.heap.size) 0 rfl _ _ (aa RA) Tryz.underlying30 rfl Tryz.bV ?_|refine wpList_load_mid rfl 30 (.tmp 39) rfl (w.heap.size+1) 0 rfl _ _ (aa RB) Tryz.underlying30 rfl Tryz.bV ?_)
  refine(fK _).mono ?_
  rintro e w1 ⟨rfl,hf1⟩
  obtain⟨b0,b1⟩:=(aa HB) w1 hf1
  have RA1:Hid (w1.rangeAt w.heap.size 10 [.int .u32 0,.int .u32 0,.int .u8 0,.int .u32 0,.int .u32 0,.slice none 0 0,.slice none 0 0]):=ae (aD b0 rfl)
  have RB1:Hid (w1.rangeAt (w.heap.size+1) 10 [.int .u32 0,.int .u32 0,.int .u8 0,.int .u32 0,.int .u32 0,.slice none 0 0,.slice none 0 0]):=ae (aD b1 rfl)
  have HF1:=ae hf1
  clear b0 b1 hf1
  go_wp2_with (first|refine ai rfl 33 (.tmp 44) rfl (w.heap.size) 10 rfl _ _ (aa RA1) Tryz.underlying33 rfl Tryz.dk ?_|refine ai rfl 33 (.tmp 46) rfl (w.heap.size+1) 10 rfl _ _ (aa RB1) Tryz.underlying33 rfl Tryz.dk ?_)
  refine(gP _).mono ?_
  rintro e w2 ⟨rfl,hf2⟩
  have hf02:=(aa HF1).trans hf2 (fun _ _ h=>h)
  obtain⟨b0,b1⟩:=(aa HB) w2 hf02
  have RA2:Hid (w2.rangeAt w.heap.size 17 [.int .u32 0,.int .u32 0,.int .u32 0,.int .u32 0,.int .u8 0,.int .u32 0,.int .u32 0,.int .u32 0,.int .u32 0,.slice none 0 0,.string ⟨#[]⟩,.int .u8 0,.slice none 0 0]):=ae (aD b0 rfl)
  have RB2:Hid (w2.rangeAt (w.heap.size+1) 17 [.int .u32 0,.int .u32 0,.int .u32 0,.int .u32 0,.int .u8 0,.int .u32 0,.int .u32 0,.int .u32 0,.int .u32 0,.slice none 0 0,.string ⟨#[]⟩,.int .u8 0,.slice none 0 0]):=ae (aD b1 rfl)
  have HF2:=ae hf02
  clear b0 b1 hf2 hf02
  go_wp2_with (first|refine ai rfl 35 (.tmp 52) rfl (w.heap.size) 17 rfl _ _ (aa RA2) Tryz.underlying35 rfl Tryz.dF ?_|refine ai rfl 35 (.tmp 54) rfl (w.heap.size+1) 17 rfl _ _ (aa RB2) Tryz.underlying35 rfl Tryz.dF ?_)
  refine(jc _).mono ?_
  rintro e w3 ⟨rfl,hf3⟩
  have hf03:=(aa HF2).trans hf3 (fun _ _ h=>h)
  obtain⟨b0,b1⟩:=(aa HB) w3 hf03
  have RA3:Hid (w3.rangeAt w.heap.size 30 [.int .u32 0,.slice none 0 0]):=ae (aD b0 rfl)
  have RB3:Hid (w3.rangeAt (w.heap.size+1) 30 [.int .u32 0,.slice none 0 0]):=ae (aD b1 rfl)
  have HF3:=ae hf03
  clear b0 b1 hf3 hf03
  go_wp2_with (first|refine ai rfl 25 (.tmp 60) rfl (w.heap.size) 30 rfl _ _ (aa RA3) Tryz.underlying25 rfl Tryz.bO ?_|refine ai rfl 25 (.tmp 62) rfl (w.heap.size+1) 30 rfl _ _ (aa RB3) Tryz.underlying25 rfl Tryz.bO ?_)
  refine(jD _).mono ?_
  rintro e w4 ⟨rfl,hf4⟩
  have hf04:=(aa HF3).trans hf4 (fun _ _ h=>h)
  obtain⟨b0,b1⟩:=(aa HB) w4 hf04
  have RA4:Hid (w4.rangeAt w.heap.size 32 [.int .u32 0,.slice none 0 0]):=ae (aD b0 rfl)
  have RB4:Hid (w4.rangeAt (w.heap.size+1) 32 [.int .u32 0,.slice none 0 0]):=ae (aD b1 rfl)
  have HF4:=ae hf04
  clear b0 b1 hf4 hf04
  go_wp2_with (first|refine wpList_load_mid rfl 25 (.tmp 68) rfl (w.heap.size) 32 rfl _ _ (aa RA4) Tryz.underlying25 rfl Tryz.bO ?_|refine wpList_load_mid rfl 25 (.tmp 71) rfl (w.heap.size+1) 32 rfl _ _ (aa RB4) Tryz.underlying25 rfl Tryz.bO ?_)
  refine(jD _).mono ?_
  rintro e w5 ⟨rfl,hf5⟩
  have hf05:=(aa HF4).trans hf5 (fun _ _ h=>h)
  obtain⟨b0,b1⟩:=(aa HB) w5 hf05
  have a34:w5.cell? ⟨w.heap.size,34,none⟩=some (.int .u32 0):=ag b0 rfl
  have b34:w5.cell? ⟨w.heap.size+1,34,none⟩=some (.int .u32 0):=ag b1 rfl
  have a35:w5.cell? ⟨w.heap.size,35,none⟩=some (.slice none 0 0):=ag b0 rfl
  have b35:w5.cell? ⟨w.heap.size+1,35,none⟩=some (.slice none 0 0):=ag b1 rfl
  have HF5:=ae hf05
  clear b0 b1 hf5 hf05
  go_wp2_with fail
  refine(iV _).mono ?_
  rintro e w6 ⟨rfl,hf6⟩
  have hf06:=(aa HF5).trans hf6 (fun _ _ h=>h)
  obtain⟨b0,b1⟩:=(aa HB) w6 hf06
  have RA6:Hid (w6.rangeAt w.heap.size 37 rB):=ae (aD b0 rfl)
  have RB6:Hid (w6.rangeAt (w.heap.size+1) 37 rB):=ae (aD b1 rfl)
  have HF6:=ae hf06
  clear b0 b1 hf6 hf06
  go_wp2_with (first|refine ai rfl 42 (.tmp 93) rfl (w.heap.size) 37 rfl _ _ (aa RA6) Tryz.underlying42 rfl Tryz.ie ?_|refine ai rfl 42 (.tmp 95) rfl (w.heap.size+1) 37 rfl _ _ (aa RB6) Tryz.underlying42 rfl Tryz.ie ?_)
  refine(iE _).mono ?_
  rintro e w7 ⟨rfl,hf7⟩
  have HF7:=ae ((aa HF0).trans ((aa HF6).trans hf7 (fun _ _ h=>h)) (fun _ _ h=>h))
  clear hf7
  go_wp2_with fail
  go_ret
  exact⟨rfl,aa HF7⟩
theorem Tryz.kV:(Tryz.prog.info? 33).map (·.size)=some 7:=by kernel_rfl
theorem Tryz.kQ:(Tryz.prog.info? 35).map (·.size)=some 13:=by kernel_rfl
theorem Tryz.zl:(Tryz.prog.info? 42).map (·.size)=some 35:=by kernel_rfl
theorem gH {w:World} {b o:Nat} {l cs:List Value} (h:∀ (i:Nat) u,l[i]?=some u→w.cell? ⟨b,i,none⟩=some u) (hc:∀ (j:Nat) u,cs[j]?=some u→l[o+j]?=some u):w.rangeAt b o cs:=fun j u hu=>h _ _ (hc j u hu)
theorem ri (kd r1 r2 r3 r4 r5 r6 r7 r8 n0 c0 icl inu s1 s2 s3 s4 s5 n1 c1 n2 c2 co e0 e1 e2 e3 e4 e5 e6 e7 e8 n3 c3 ec n4 c4 le:Nat) (rs es:ByteArray) (a0 a1 a2 a3 a4:Option Addr) (A B C b1 b2 b3 b4 b5 b6:Bool) (w:World) (m1:((kd:Int) != 1)=b1) (m2:((kd:Int) != 2)=b2) (m3:((kd:Int) != 3)=b3) (m4:((kd:Int) != 4)=b4) (m5:((kd:Int) != 5)=b5) (m6:((kd:Int) != 6)=b6) (hM:(b1=true∧b2=true∧b3=true∧b4=true∧b5=true∧b6=true)∨(b1=false∧b2=true∧b3=true∧b4=true∧b5=true∧b6=true)∨(b1=true∧b2=false∧b3=true∧b4=true∧b5=true∧b6=true)∨(b1=true∧b2=true∧b3=false∧b4=true∧b5=true∧b6=true)∨(b1=true∧b2=true∧b3=true∧b4=false∧b5=true∧b6=true)∨(b1=true∧b2=true∧b3=true∧b4=true∧b5=false∧b6=true)∨(b1=true∧b2=true∧b3=true∧b4=true∧b5=true∧b6=false))
  (hR:∀ wx,Calls Tryz.prog 122 #[.agg #[.int .u32 (r1:Nat),.int .u32 (r2:Nat),.int .u32 (r3:Nat),.int .u8 (r4:Nat),.int .u32 (r5:Nat),.int .u32 (r6:Nat),.int .u32 (r7:Nat),.int .u32 (r8:Nat),.slice a0 n0 c0,.string rs]] wx fun e w'=>e = .returned (.bool (!A))∧Fr (fun _=>False) wx w')
  (hA:∀ wx,Calls Tryz.prog 123 #[.agg #[.int .u32 (s1:Nat),.int .u32 (s2:Nat),.int .u8 (s3:Nat),.int .u32 (s4:Nat),.int .u32 (s5:Nat),.slice a1 n1 c1,.slice a2 n2 c2]] wx fun e w'=>e = .returned (.bool (!B))∧Fr (fun _=>False) wx w')
  (hE:∀ wx,Calls Tryz.prog 124 #[.agg #[.int .u32 (e0:Nat),.int .u32 (e1:Nat),.int .u32 (e2:Nat),.int .u32 (e3:Nat),.int .u8 (e4:Nat),.int .u32 (e5:Nat),.int .u32 (e6:Nat),.int .u32 (e7:Nat),.int .u32 (e8:Nat),.slice a3 n3 c3,.string es,.int .u8 (ec:Nat),.slice a4 n4 c4]] wx fun e w'=>e = .returned (.bool (!C))∧Fr (fun _=>False) wx w') :
  Calls Tryz.prog 97 #[.agg #[.int .u8 (kd:Nat),.int .u32 (r1:Nat),.int .u32 (r2:Nat),.int .u32 (r3:Nat),.int .u8 (r4:Nat),.int .u32 (r5:Nat),.int .u32 (r6:Nat),.int .u32 (r7:Nat),.int .u32 (r8:Nat),.slice a0 n0 c0,.string rs,.int .u32 (icl:Nat),.int .u32 (inu:Nat),.int .u32 (s1:Nat),.int .u32 (s2:Nat),.int .u8 (s3:Nat),.int .u32 (s4:Nat),.int .u32 (s5:Nat),.slice a1 n1 c1,.slice a2 n2 c2,.int .u8 (co:Nat),.int .u32 (e0:Nat),.int .u32 (e1:Nat),.int .u32 (e2:Nat),.int .u32 (e3:Nat),.int .u8 (e4:Nat),.int .u32 (e5:Nat),.int .u32 (e6:Nat),.int .u32 (e7:Nat),.int .u32 (e8:Nat),.slice a3 n3 c3,.string es,.int .u8 (ec:Nat),.slice a4 n4 c4,.int .u32 (le:Nat)]] w fun e w'=>e = .returned (.bool ((b1 && A) || (b3 && B) || (b5 && C) || (b6 && le != 0) || (b4 && co != 0) || (b2 && b4 && !(icl == 0 && inu == 0))))∧Fr (fun _=>False) w w':=by
 obtain⟨RES,hRES⟩:∃ RES,((b1 && A) || (b3 && B) || (b5 && C) || (b6 && le != 0) || (b4 && co != 0) || (b2 && b4 && !(icl == 0 && inu == 0)))=RES:=⟨_,rfl⟩
 rw[hRES]
 have HRES:=ae hRES
 clear hRES
 rcases hM with ⟨rfl,rfl,rfl,rfl,rfl,rfl⟩|⟨rfl,rfl,rfl,rfl,rfl,rfl⟩|⟨rfl,rfl,rfl,rfl,rfl,rfl⟩|⟨rfl,rfl,rfl,rfl,rfl,rfl⟩|⟨rfl,rfl,rfl,rfl,rfl,rfl⟩|⟨rfl,rfl,rfl,rfl,rfl,rfl⟩|⟨rfl,rfl,rfl,rfl,rfl,rfl⟩
 all_goals
  have HR:=ae hR
  have HA:=ae hA
  have HE:=ae hE
  clear hR hA hE
  go_enter Tryz.func97,Tryz.ntmps97
  obtain⟨W1,hW1⟩:∃ W1,w.alloc (.cells #[.int .u8 (kd:Nat),.int .u32 (r1:Nat),.int .u32 (r2:Nat),.int .u32 (r3:Nat),.int .u8 (r4:Nat),.int .u32 (r5:Nat),.int .u32 (r6:Nat),.int .u32 (r7:Nat),.int .u32 (r8:Nat),.slice a0 n0 c0,.string rs,.int .u32 (icl:Nat),.int .u32 (inu:Nat),.int .u32 (s1:Nat),.int .u32 (s2:Nat),.int .u8 (s3:Nat),.int .u32 (s4:Nat),.int .u32 (s5:Nat),.slice a1 n1 c1,.slice a2 n2 c2,.int .u8 (co:Nat),.int .u32 (e0:Nat),.int .u32 (e1:Nat),.int .u32 (e2:Nat),.int .u32 (e3:Nat),.int .u8 (e4:Nat),.int .u32 (e5:Nat),.int .u32 (e6:Nat),.int .u32 (e7:Nat),.int .u32 (e8:Nat),.slice a3 n3 c3,.string es,.int .u8 (ec:Nat),.slice a4 n4 c4,.int .u32 (le:Nat)] 42)=W1:=⟨_,rfl⟩
  have hb1:W1.heap[w.heap.size]?=some (.cells #[.int .u8 (kd:Nat),.int .u32 (r1:Nat),.int .u32 (r2:Nat),.int .u32 (r3:Nat),.int .u8 (r4:Nat),.int .u32 (r5:Nat),.int .u32 (r6:Nat),.int .u32 (r7:Nat),.int .u32 (r8:Nat),.slice a0 n0 c0,.string rs,.int .u32 (icl:Nat),.int .u32 (inu:Nat),.int .u32 (s1:Nat),.int .u32 (s2:Nat),.int .u8 (s3:Nat),.int .u32 (s4:Nat),.int .u32 (s5:Nat),.slice a1 n1 c1,.slice a2 n2 c2,.int .u8 (co:Nat),.int .u32 (e0:Nat),.int .u32 (e1:Nat),.int .u32 (e2:Nat),.int .u32 (e3:Nat),.int .u8 (e4:Nat),.int .u32 (e5:Nat),.int .u32 (e6:Nat),.int .u32 (e7:Nat),.int .u32 (e8:Nat),.slice a3 n3 c3,.string es,.int .u8 (ec:Nat),.slice a4 n4 c4,.int .u32 (le:Nat)] 42):=by rw[← hW1];exact heap_alloc_new w _
  have hf1:Fr (fun _=>False) w W1:=by rw[← hW1];exact al w _
  have HB:Hid (∀ W',Fr (fun _=>False) W1 W'→(∀ (i:Nat) u,([.int .u8 (kd:Nat),.int .u32 (r1:Nat),.int .u32 (r2:Nat),.int .u32 (r3:Nat),.int .u8 (r4:Nat),.int .u32 (r5:Nat),.int .u32 (r6:Nat),.int .u32 (r7:Nat),.int .u32 (r8:Nat),.slice a0 n0 c0,.string rs,.int .u32 (icl:Nat),.int .u32 (inu:Nat),.int .u32 (s1:Nat),.int .u32 (s2:Nat),.int .u8 (s3:Nat),.int .u32 (s4:Nat),.int .u32 (s5:Nat),.slice a1 n1 c1,.slice a2 n2 c2,.int .u8 (co:Nat),.int .u32 (e0:Nat),.int .u32 (e1:Nat),.int .u32 (e2:Nat),.int .u32 (e3:Nat),.int .u8 (e4:Nat),.int .u32 (e5:Nat),.int .u32 (e6:Nat),.int .u32 (e7:Nat),.int .u32 (e8:Nat),.slice a3 n3 c3,.string es,.int .u8 (ec:Nat),.slice a4 n4 c4,.int .u32 (le:Nat)]:List Value)[i]?=some u→W'.cell? ⟨w.heap.size,i,none⟩=some u)∧W'.rangeAt w.heap.size 1 [.int .u32 (r1:Nat),.int .u32 (r2:Nat),.int .u32 (r3:Nat),.int .u8 (r4:Nat),.int .u32 (r5:Nat),.int .u32 (r6:Nat),.int .u32 (r7:Nat),.int .u32 (r8:Nat),.slice a0 n0 c0,.string rs]∧W'.rangeAt w.heap.size 13 [.int .u32 (s1:Nat),.int .u32 (s2:Nat),.int .u8 (s3:Nat),.int .u32 (s4:Nat),.int .u32 (s5:Nat),.slice a1 n1 c1,.slice a2 n2 c2]∧W'.rangeAt w.heap.size 21 [.int .u32 (e0:Nat),.int .u32 (e1:Nat),.int .u32 (e2:Nat),.int .u32 (e3:Nat),.int .u8 (e4:Nat),.int .u32 (e5:Nat),.int .u32 (e6:Nat),.int .u32 (e7:Nat),.int .u32 (e8:Nat),.slice a3 n3 c3,.string es,.int .u8 (ec:Nat),.slice a4 n4 c4]):=ae (fun W' hf=>by
   have hb:=(hf.block _ (lt_of_block hb1) (fun h=>h)).trans hb1
   have hc:∀ (i:Nat) u,([.int .u8 (kd:Nat),.int .u32 (r1:Nat),.int .u32 (r2:Nat),.int .u32 (r3:Nat),.int .u8 (r4:Nat),.int .u32 (r5:Nat),.int .u32 (r6:Nat),.int .u32 (r7:Nat),.int .u32 (r8:Nat),.slice a0 n0 c0,.string rs,.int .u32 (icl:Nat),.int .u32 (inu:Nat),.int .u32 (s1:Nat),.int .u32 (s2:Nat),.int .u8 (s3:Nat),.int .u32 (s4:Nat),.int .u32 (s5:Nat),.slice a1 n1 c1,.slice a2 n2 c2,.int .u8 (co:Nat),.int .u32 (e0:Nat),.int .u32 (e1:Nat),.int .u32 (e2:Nat),.int .u32 (e3:Nat),.int .u8 (e4:Nat),.int .u32 (e5:Nat),.int .u32 (e6:Nat),.int .u32 (e7:Nat),.int .u32 (e8:Nat),.slice a3 n3 c3,.string es,.int .u8 (ec:Nat),.slice a4 n4 c4,.int .u32 (le:Nat)]:List Value)[i]?=some u→W'.cell? ⟨w.heap.size,i,none⟩=some u:=fun i u hu=>ag hb (by simpa using hu)
   exact⟨hc,gH hc (fun j u hu=>(List.getElem?_append_left (l₁:=[.int .u32 (r1:Nat),.int .u32 (r2:Nat),.int .u32 (r3:Nat),.int .u8 (r4:Nat),.int .u32 (r5:Nat),.int .u32 (r6:Nat),.int .u32 (r7:Nat),.int .u32 (r8:Nat),.slice a0 n0 c0,.string rs]) (l₂:=[.int .u32 (icl:Nat),.int .u32 (inu:Nat),.int .u32 (s1:Nat),.int .u32 (s2:Nat),.int .u8 (s3:Nat),.int .u32 (s4:Nat),.int .u32 (s5:Nat),.slice a1 n1 c1,.slice a2 n2 c2,.int .u8 (co:Nat),.int .u32 (e0:Nat),.int .u32 (e1:Nat),.int .u32 (e2:Nat),.int .u32 (e3:Nat),.int .u8 (e4:Nat),.int .u32 (e5:Nat),.int .u32 (e6:Nat),.int .u32 (e7:Nat),.int .u32 (e8:Nat),.slice a3 n3 c3,.string es,.int .u8 (ec:Nat),.slice a4 n4 c4,.int .u32 (le:Nat)]) (List.getElem?_eq_some_iff.1 hu).1).trans hu |> fun h=>by rw[Nat.add_comm];exact h),gH hc (fun j u hu=>(List.getElem?_append_left (l₁:=[.int .u32 (s1:Nat),.int .u32 (s2:Nat),.int .u8 (s3:Nat),.int .u32 (s4:Nat),.int .u32 (s5:Nat),.slice a1 n1 c1,.slice a2 n2 c2]) (l₂:=[.int .u8 (co:Nat),.int .u32 (e0:Nat),.int .u32 (e1:Nat),.int .u32 (e2:Nat),.int .u32 (e3:Nat),.int .u8 (e4:Nat),.int .u32 (e5:Nat),.int .u32 (e6:Nat),.int .u32 (e7:Nat),.int .u32 (e8:Nat),.slice a3 n3 c3,.string es,.int .u8 (ec:Nat),.slice a4 n4 c4,.int .u32 (le:Nat)]) (List.getElem?_eq_some_iff.1 hu).1).trans hu |> fun h=>by rw[Nat.add_comm];exact h),gH hc (fun j u hu=>(List.getElem?_append_left (l₁:=[.int .u32 (e0:Nat),.int .u32 (e1:Nat),.int .u32 (e2:Nat),.int .u32 (e3:Nat),.int .u8 (e4:Nat),.int .u32 (e5:Nat),.int .u32 (e6:Nat),.int .u32 (e7:Nat),.int .u32 (e8:Nat),.slice a3 n3 c3,.string es,.int .u8 (ec:Nat),.slice a4 n4 c4]) (l₂:=[.int .u32 (le:Nat)]) (List.getElem?_eq_some_iff.1 hu).1).trans hu |> fun h=>by rw[Nat.add_comm];exact h)⟩)
  have HF0:=ae hf1
  have HF:Hid (Fr (fun _=>False) W1 W1):=ae (Fr.refl _ _)
  have k0:=(aa HB _ (aa HF)).1 0 _ rfl
  have k11:=(aa HB _ (aa HF)).1 11 _ rfl
  have k12:=(aa HB _ (aa HF)).1 12 _ rfl
  have k20:=(aa HB _ (aa HF)).1 20 _ rfl
  have k34:=(aa HB _ (aa HF)).1 34 _ rfl
  have HR0:=ae (aa HB _ (aa HF)).2
  clear hb1 hf1
  go_wp2_with (first
   | (go_at_call 122;refine((aa HR) _).mono ?_;rintro e w1 ⟨rfl,hf1⟩;have HF:=ae ((aa HF).trans hf1 (fun _ _ h=>h));clear hf1;have k0:=(aa HB _ (aa HF)).1 0 _ rfl;have k11:=(aa HB _ (aa HF)).1 11 _ rfl;have k12:=(aa HB _ (aa HF)).1 12 _ rfl;have k20:=(aa HB _ (aa HF)).1 20 _ rfl;have k34:=(aa HB _ (aa HF)).1 34 _ rfl;have HR1:=ae (aa HB _ (aa HF)).2)
   | (go_at_call 123;refine((aa HA) _).mono ?_;rintro e w2 ⟨rfl,hf2⟩;have HF:=ae ((aa HF).trans hf2 (fun _ _ h=>h));clear hf2;have k0:=(aa HB _ (aa HF)).1 0 _ rfl;have k11:=(aa HB _ (aa HF)).1 11 _ rfl;have k12:=(aa HB _ (aa HF)).1 12 _ rfl;have k20:=(aa HB _ (aa HF)).1 20 _ rfl;have k34:=(aa HB _ (aa HF)).1 34 _ rfl;have HR2:=ae (aa HB _ (aa HF)).2)
   | (go_at_call 124;refine((aa HE) _).mono ?_;rintro e w3 ⟨rfl,hf3⟩;have HF:=ae ((aa HF).trans hf3 (fun _ _ h=>h));clear hf3;have k0:=(aa HB _ (aa HF)).1 0 _ rfl;have k11:=(aa HB _ (aa HF)).1 11 _ rfl;have k12:=(aa HB _ (aa HF)).1 12 _ rfl;have k20:=(aa HB _ (aa HF)).1 20 _ rfl;have k34:=(aa HB _ (aa HF)).1 34 _ rfl;have HR3:=ae (aa HB _ (aa HF)).2)
   | ((with_reducible refine aX 8 ?_);refine ai rfl 30 (.tmp 7) rfl w.heap.size 1 rfl _ _ (aa HR3).1 Tryz.underlying30 rfl Tryz.kU ?_)
   | ((with_reducible refine aX 8 ?_);refine ai rfl 30 (.tmp 7) rfl w.heap.size 1 rfl _ _ (aa HR2).1 Tryz.underlying30 rfl Tryz.kU ?_)
   | ((with_reducible refine aX 8 ?_);refine ai rfl 30 (.tmp 7) rfl w.heap.size 1 rfl _ _ (aa HR1).1 Tryz.underlying30 rfl Tryz.kU ?_)
   | ((with_reducible refine aX 8 ?_);refine ai rfl 30 (.tmp 7) rfl w.heap.size 1 rfl _ _ (aa HR0).1 Tryz.underlying30 rfl Tryz.kU ?_)
   | ((with_reducible refine aX 18 ?_);refine ai rfl 33 (.tmp 17) rfl w.heap.size 13 rfl _ _ (aa HR3).2.1 Tryz.underlying33 rfl Tryz.kV ?_)
   | ((with_reducible refine aX 18 ?_);refine ai rfl 33 (.tmp 17) rfl w.heap.size 13 rfl _ _ (aa HR2).2.1 Tryz.underlying33 rfl Tryz.kV ?_)
   | ((with_reducible refine aX 18 ?_);refine ai rfl 33 (.tmp 17) rfl w.heap.size 13 rfl _ _ (aa HR1).2.1 Tryz.underlying33 rfl Tryz.kV ?_)
   | ((with_reducible refine aX 18 ?_);refine ai rfl 33 (.tmp 17) rfl w.heap.size 13 rfl _ _ (aa HR0).2.1 Tryz.underlying33 rfl Tryz.kV ?_)
   | ((with_reducible refine aX 29 ?_);refine ai rfl 35 (.tmp 28) rfl w.heap.size 21 rfl _ _ (aa HR3).2.2 Tryz.underlying35 rfl Tryz.kQ ?_)
   | ((with_reducible refine aX 29 ?_);refine ai rfl 35 (.tmp 28) rfl w.heap.size 21 rfl _ _ (aa HR2).2.2 Tryz.underlying35 rfl Tryz.kQ ?_)
   | ((with_reducible refine aX 29 ?_);refine ai rfl 35 (.tmp 28) rfl w.heap.size 21 rfl _ _ (aa HR1).2.2 Tryz.underlying35 rfl Tryz.kQ ?_)
   | ((with_reducible refine aX 29 ?_);refine ai rfl 35 (.tmp 28) rfl w.heap.size 21 rfl _ _ (aa HR0).2.2 Tryz.underlying35 rfl Tryz.kQ ?_))
  all_goals
   go_ret
   refine⟨?_,(aa HF0).trans (aa HF) (fun _ _ h=>h)⟩
   rw[← aa HRES]
   clear HRES HR HA HE HB HF HF0 hW1 HR0
   first|(simp_all [da];done)|(simp_all [da];rfl)
theorem j3 (k m:Nat):(((k:Nat):Int) != (m:Int))=decide (k≠m):=by
 by_cases h:k=m
 ·subst h;simp
 ·have h2:(k:Int)≠(m:Int):=by omega
  rw[bne_iff_ne.2 h2,decide_eq_true h]
theorem tF (v:cd) (a0 a1 a2 a3 a4:Option Addr) (c0 c1 c2 c3 c4:Nat) (w:World) (hv:v.ok) (hn:v.lens):Calls Tryz.prog 97 #[.agg (v.aL (.slice a0 v.rq.fs.length c0) (.slice a1 v.an.fs.length c1) (.slice a2 v.an.hi.length c2) (.slice a3 v.ev.rq.fs.length c3) (.slice a4 v.ev.dg.length c4))] w fun e w'=>e = .returned (.bool (n7 v))∧Fr (fun _=>False) w w':=
 ri v.kd v.rq.cl v.rq.nu v.rq.ac v.rq.op v.rq.re v.rq.ve v.rq.wa v.rq.ow v.rq.fs.length c0 v.icl v.inu v.an.cl v.an.nu v.an.co v.an.re v.an.ve v.an.fs.length c1 v.an.hi.length c2 v.co v.ev.pl v.ev.rq.cl v.ev.rq.nu v.ev.rq.ac v.ev.rq.op v.ev.rq.re v.ev.rq.ve v.ev.rq.wa v.ev.rq.ow v.ev.rq.fs.length c3 v.ev.co v.ev.dg.length c4 v.le v.rq.rs v.ev.rq.rs a0 a1 a2 a3 a4 v.rq.is v.an.is v.ev.is _ _ _ _ _ _ w (j3 v.kd 1) (j3 v.kd 2) (j3 v.kd 3) (j3 v.kd 4) (j3 v.kd 5) (j3 v.kd 6) (by
  rcases(show v.kd=1∨v.kd=2∨v.kd=3∨v.kd=4∨v.kd=5∨v.kd=6∨(v.kd≠1∧v.kd≠2∧v.kd≠3∧v.kd≠4∧v.kd≠5∧v.kd≠6) by omega) with h|h|h|h|h|h|⟨q1,q2,q3,q4,q5,q6⟩
  ·simp[h]
  ·simp[h]
  ·simp[h]
  ·simp[h]
  ·simp[h]
  ·simp[h]
  ·simp[q1,q2,q3,q4,q5,q6])
  (fun wx=>ft v.rq a0 c0 wx hv.rq hn.rq) (fun wx=>jP v.an a1 c1 a2 c2 wx hv.an hn.an hn.hi) (fun wx=>ks v.ev a3 c3 a4 c4 wx hv.ev hn.ev hn.dg)
structure MsB (v:cd):Prop where
 s0:∀ f∈v.rq.fs,f.name.size<140737488355000∧f.text.size<140737488355000
 s1:∀ f∈v.an.fs,f.name.size<140737488355000∧f.text.size<140737488355000
 s3:∀ f∈v.ev.rq.fs,f.name.size<140737488355000∧f.text.size<140737488355000
 l0:v.rq.fs.length≤1048576
 l1:v.an.fs.length≤1048576
 l2:v.an.hi.length≤1048576
 l3:v.ev.rq.fs.length≤1048576
 r0:v.rq.rs.size<140737488355000
 r3:v.ev.rq.rs.size<140737488355000
theorem rm (v:cd) (hk68:Hid (v.kd=6∨v.kd=8)) (a0 a1 a2 a3 a4:Option Addr) (c0 c1 c2 c3 c4:Nat) (w:World) (hv:v.ok) (hx:AP w v (.slice a0 v.rq.fs.length c0) (.slice a1 v.an.fs.length c1) (.slice a2 v.an.hi.length c2) (.slice a3 v.ev.rq.fs.length c3) (.slice a4 v.ev.dg.length c4)) (hb:MsB v) :
  Calls Tryz.prog 56 #[.agg (v.aL (.slice a0 v.rq.fs.length c0) (.slice a1 v.an.fs.length c1) (.slice a2 v.an.hi.length c2) (.slice a3 v.ev.rq.fs.length c3) (.slice a4 v.ev.dg.length c4))] w fun e w'=>∃ y L,e = .returned y∧PL w' w.heap.size y L∧L.map PV.p=cJ v∧L.length≤16777216∧Fr (fun _=>False) w w':=by
 have HLn:Hid v.lens:=ae ⟨hx.i0.len,hx.i1.len,hx.i2.len,hx.i3.len,hx.i4.len⟩
 have HSp:Hid (∀ wx,Calls Tryz.prog 97 #[.agg #[.int .u8 (v.kd:Nat),.int .u32 (v.rq.cl:Nat),.int .u32 (v.rq.nu:Nat),.int .u32 (v.rq.ac:Nat),.int .u8 (v.rq.op:Nat),.int .u32 (v.rq.re:Nat),.int .u32 (v.rq.ve:Nat),.int .u32 (v.rq.wa:Nat),.int .u32 (v.rq.ow:Nat),.slice a0 v.rq.fs.length c0,.string v.rq.rs,.int .u32 (v.icl:Nat),.int .u32 (v.inu:Nat),.int .u32 (v.an.cl:Nat),.int .u32 (v.an.nu:Nat),.int .u8 (v.an.co:Nat),.int .u32 (v.an.re:Nat),.int .u32 (v.an.ve:Nat),.slice a1 v.an.fs.length c1,.slice a2 v.an.hi.length c2,.int .u8 (v.co:Nat),.int .u32 (v.ev.pl:Nat),.int .u32 (v.ev.rq.cl:Nat),.int .u32 (v.ev.rq.nu:Nat),.int .u32 (v.ev.rq.ac:Nat),.int .u8 (v.ev.rq.op:Nat),.int .u32 (v.ev.rq.re:Nat),.int .u32 (v.ev.rq.ve:Nat),.int .u32 (v.ev.rq.wa:Nat),.int .u32 (v.ev.rq.ow:Nat),.slice a3 v.ev.rq.fs.length c3,.string v.ev.rq.rs,.int .u8 (v.ev.co:Nat),.slice a4 v.ev.dg.length c4,.int .u32 (v.le:Nat)]] wx fun e w'=>e = .returned (.bool (n7 v))∧Fr (fun _=>False) wx w'):=ae (fun wx=>tF v a0 a1 a2 a3 a4 c0 c1 c2 c3 c4 wx hv (aa HLn))
 obtain⟨SP,hSP⟩:∃ SP,n7 v=SP:=⟨_,rfl⟩
 rw[hSP] at HSp
 have HM:Hid (cJ v=⟨ay,1,v.kd,[],if v.kd<1∨7<v.kd then 5 else if SP=true then 4 else 0⟩::hD v):=ae (by unfold cJ;rw[hSP])
 obtain⟨MD,hMD⟩:∃ MD,cJ v=MD:=⟨_,rfl⟩
 rw[hMD] at HM ⊢
 obtain⟨KW,hKW⟩:∃ KW,(if v.kd<1∨7<v.kd then 5 else if SP=true then 4 else 0:Nat)=KW:=⟨_,rfl⟩
 rw[hKW] at HM
 have HK:=ae hKW
 have hkd:=hv.kd
 have HV:=ae (And.intro hv (And.intro hx hb))
 clear hv hx hb hSP hMD hKW HLn
 unfold cd.aL
 go_enter Tryz.func56,Tryz.ntmps56
 obtain⟨W1,hW1⟩:∃ W1,w.alloc (.cells #[.int .u8 (v.kd:Nat),.int .u32 (v.rq.cl:Nat),.int .u32 (v.rq.nu:Nat),.int .u32 (v.rq.ac:Nat),.int .u8 (v.rq.op:Nat),.int .u32 (v.rq.re:Nat),.int .u32 (v.rq.ve:Nat),.int .u32 (v.rq.wa:Nat),.int .u32 (v.rq.ow:Nat),.slice a0 v.rq.fs.length c0,.string v.rq.rs,.int .u32 (v.icl:Nat),.int .u32 (v.inu:Nat),.int .u32 (v.an.cl:Nat),.int .u32 (v.an.nu:Nat),.int .u8 (v.an.co:Nat),.int .u32 (v.an.re:Nat),.int .u32 (v.an.ve:Nat),.slice a1 v.an.fs.length c1,.slice a2 v.an.hi.length c2,.int .u8 (v.co:Nat),.int .u32 (v.ev.pl:Nat),.int .u32 (v.ev.rq.cl:Nat),.int .u32 (v.ev.rq.nu:Nat),.int .u32 (v.ev.rq.ac:Nat),.int .u8 (v.ev.rq.op:Nat),.int .u32 (v.ev.rq.re:Nat),.int .u32 (v.ev.rq.ve:Nat),.int .u32 (v.ev.rq.wa:Nat),.int .u32 (v.ev.rq.ow:Nat),.slice a3 v.ev.rq.fs.length c3,.string v.ev.rq.rs,.int .u8 (v.ev.co:Nat),.slice a4 v.ev.dg.length c4,.int .u32 (v.le:Nat)] 42)=W1:=⟨_,rfl⟩
 have hf1:Fr (fun _=>False) w W1:=by rw[← hW1];exact al w _
 have hb1:W1.heap[w.heap.size]?=some (.cells #[.int .u8 (v.kd:Nat),.int .u32 (v.rq.cl:Nat),.int .u32 (v.rq.nu:Nat),.int .u32 (v.rq.ac:Nat),.int .u8 (v.rq.op:Nat),.int .u32 (v.rq.re:Nat),.int .u32 (v.rq.ve:Nat),.int .u32 (v.rq.wa:Nat),.int .u32 (v.rq.ow:Nat),.slice a0 v.rq.fs.length c0,.string v.rq.rs,.int .u32 (v.icl:Nat),.int .u32 (v.inu:Nat),.int .u32 (v.an.cl:Nat),.int .u32 (v.an.nu:Nat),.int .u8 (v.an.co:Nat),.int .u32 (v.an.re:Nat),.int .u32 (v.an.ve:Nat),.slice a1 v.an.fs.length c1,.slice a2 v.an.hi.length c2,.int .u8 (v.co:Nat),.int .u32 (v.ev.pl:Nat),.int .u32 (v.ev.rq.cl:Nat),.int .u32 (v.ev.rq.nu:Nat),.int .u32 (v.ev.rq.ac:Nat),.int .u8 (v.ev.rq.op:Nat),.int .u32 (v.ev.rq.re:Nat),.int .u32 (v.ev.rq.ve:Nat),.int .u32 (v.ev.rq.wa:Nat),.int .u32 (v.ev.rq.ow:Nat),.slice a3 v.ev.rq.fs.length c3,.string v.ev.rq.rs,.int .u8 (v.ev.co:Nat),.slice a4 v.ev.dg.length c4,.int .u32 (v.le:Nat)] 42):=by rw[← hW1];exact heap_alloc_new w _
 have HB:Hid (∀ W',Fr (fun _=>False) W1 W'→∀ (i:Nat) u,([.int .u8 (v.kd:Nat),.int .u32 (v.rq.cl:Nat),.int .u32 (v.rq.nu:Nat),.int .u32 (v.rq.ac:Nat),.int .u8 (v.rq.op:Nat),.int .u32 (v.rq.re:Nat),.int .u32 (v.rq.ve:Nat),.int .u32 (v.rq.wa:Nat),.int .u32 (v.rq.ow:Nat),.slice a0 v.rq.fs.length c0,.string v.rq.rs,.int .u32 (v.icl:Nat),.int .u32 (v.inu:Nat),.int .u32 (v.an.cl:Nat),.int .u32 (v.an.nu:Nat),.int .u8 (v.an.co:Nat),.int .u32 (v.an.re:Nat),.int .u32 (v.an.ve:Nat),.slice a1 v.an.fs.length c1,.slice a2 v.an.hi.length c2,.int .u8 (v.co:Nat),.int .u32 (v.ev.pl:Nat),.int .u32 (v.ev.rq.cl:Nat),.int .u32 (v.ev.rq.nu:Nat),.int .u32 (v.ev.rq.ac:Nat),.int .u8 (v.ev.rq.op:Nat),.int .u32 (v.ev.rq.re:Nat),.int .u32 (v.ev.rq.ve:Nat),.int .u32 (v.ev.rq.wa:Nat),.int .u32 (v.ev.rq.ow:Nat),.slice a3 v.ev.rq.fs.length c3,.string v.ev.rq.rs,.int .u8 (v.ev.co:Nat),.slice a4 v.ev.dg.length c4,.int .u32 (v.le:Nat)]:List Value)[i]?=some u→W'.cell? ⟨w.heap.size,i,none⟩=some u):=ae (fun W' hf i u hu=>by
  have hb:=(hf.block _ (lt_of_block hb1) (fun h=>h)).trans hb1
  exact ag hb (by simpa using hu))
 have HS1:Hid (∀ W',Fr (fun _=>False) W1 W'→W'.cell? ⟨w.heap.size,0,none⟩=some (.int .u8 (v.kd:Nat))∧W'.rangeAt w.heap.size 0 [.int .u8 (v.kd:Nat),.int .u32 (v.rq.cl:Nat),.int .u32 (v.rq.nu:Nat),.int .u32 (v.rq.ac:Nat),.int .u8 (v.rq.op:Nat),.int .u32 (v.rq.re:Nat),.int .u32 (v.rq.ve:Nat),.int .u32 (v.rq.wa:Nat),.int .u32 (v.rq.ow:Nat),.slice a0 v.rq.fs.length c0,.string v.rq.rs,.int .u32 (v.icl:Nat),.int .u32 (v.inu:Nat),.int .u32 (v.an.cl:Nat),.int .u32 (v.an.nu:Nat),.int .u8 (v.an.co:Nat),.int .u32 (v.an.re:Nat),.int .u32 (v.an.ve:Nat),.slice a1 v.an.fs.length c1,.slice a2 v.an.hi.length c2,.int .u8 (v.co:Nat),.int .u32 (v.ev.pl:Nat),.int .u32 (v.ev.rq.cl:Nat),.int .u32 (v.ev.rq.nu:Nat),.int .u32 (v.ev.rq.ac:Nat),.int .u8 (v.ev.rq.op:Nat),.int .u32 (v.ev.rq.re:Nat),.int .u32 (v.ev.rq.ve:Nat),.int .u32 (v.ev.rq.wa:Nat),.int .u32 (v.ev.rq.ow:Nat),.slice a3 v.ev.rq.fs.length c3,.string v.ev.rq.rs,.int .u8 (v.ev.co:Nat),.slice a4 v.ev.dg.length c4,.int .u32 (v.le:Nat)]):=ae (fun W' hf=>⟨(aa HB) W' hf 0 _ rfl,fun j u hu=>by rw[Nat.zero_add];exact(aa HB) W' hf j u hu⟩)
 have hlt1:w.heap.size<W1.heap.size:=lt_of_block hb1
 have HF1:=ae hf1
 have hwk:=CE (n:=v.kd) (by omega)
 clear hb1 hf1
 go_wp2_with fail
 clear hW1
 have hsp:(if SP=true then (4:Int) else 0)=((if SP=true then 4 else 0:Nat):Int):=by cases SP <;> rfl
 obtain⟨SW,hSW⟩:∃ SW,(if SP=true then 4 else 0:Nat)=SW:=⟨_,rfl⟩
 rw[hSW] at hsp
 have HSW:=ae hSW
 clear hSW
 go_cut [3] from 5 to 11 (fun s wx=>∃ b:Nat,s = .pointer (some ⟨b,0,none⟩)∧W1.heap.size≤b∧wx.heap[b]?=some (.cells #[.string ay,.int .i64 1,.int .u64 (v.kd:Nat),.slice none 0 0,.int .i64 (SW:Nat)] 110)∧Fr (fun _=>False) W1 wx)
 case first =>
  refine wp_region_held_drew (S:=(fun W:World=>W.cell? ⟨w.heap.size,0,none⟩=some (.int .u8 (v.kd:Nat))∧W.rangeAt w.heap.size 0 [.int .u8 (v.kd:Nat),.int .u32 (v.rq.cl:Nat),.int .u32 (v.rq.nu:Nat),.int .u32 (v.rq.ac:Nat),.int .u8 (v.rq.op:Nat),.int .u32 (v.rq.re:Nat),.int .u32 (v.rq.ve:Nat),.int .u32 (v.rq.wa:Nat),.int .u32 (v.rq.ow:Nat),.slice a0 v.rq.fs.length c0,.string v.rq.rs,.int .u32 (v.icl:Nat),.int .u32 (v.inu:Nat),.int .u32 (v.an.cl:Nat),.int .u32 (v.an.nu:Nat),.int .u8 (v.an.co:Nat),.int .u32 (v.an.re:Nat),.int .u32 (v.an.ve:Nat),.slice a1 v.an.fs.length c1,.slice a2 v.an.hi.length c2,.int .u8 (v.co:Nat),.int .u32 (v.ev.pl:Nat),.int .u32 (v.ev.rq.cl:Nat),.int .u32 (v.ev.rq.nu:Nat),.int .u32 (v.ev.rq.ac:Nat),.int .u8 (v.ev.rq.op:Nat),.int .u32 (v.ev.rq.re:Nat),.int .u32 (v.ev.rq.ve:Nat),.int .u32 (v.ev.rq.wa:Nat),.int .u32 (v.ev.rq.ow:Nat),.slice a3 v.ev.rq.fs.length c3,.string v.ev.rq.rs,.int .u8 (v.ev.co:Nat),.slice a4 v.ev.dg.length c4,.int .u32 (v.le:Nat)])) (by kernel_rfl) ((aa HS1) _ (Fr.refl _ _).drew) (fun hHeld=>?_)
  refine gA (i:=0) rfl hHeld ?_
  (try simp only[Act.put,bd])
  refine gA (i:=1) rfl hHeld ?_
  (try simp only[Act.put,bd])
  refine gA (i:=2) rfl hHeld ?_
  (try simp only[Act.put,bd])
  refine gA (i:=3) rfl hHeld ?_
  (try simp only[Act.put,bd])
  refine cK (i:=4) rfl (yieldsIf_load_mid rfl 42 (.tmp 1) rfl w.heap.size 0 rfl _ _ (fun w h=>h.2) Tryz.underlying42 rfl Tryz.zl) hHeld ?_
  (try simp only[Act.put,bd])
  refine wpAnyH_ready (rs:=[5,7]) (by kernel_rfl) (by simp) (AllReadyH.cons rfl (fun K hK=>?_) (AllReadyH.cons rfl (fun K hK=>?_) AllReadyH.nil))
  ·go_simp
   refine((aa HSp) _).mono ?_
   rintro e w5 ⟨rfl,hf5⟩
   have hr5:Fr (fun _=>False) _ w5:=(Fr.refl _ _).drew.trans hf5 (fun _ _ h=>h)
   try dsimp only
   (try clear hHeld)
   refine hK.out _ _ ((aa HS1) _ hr5) (fun hHeld=>?_)
   clear hK K
   (try simp only[Act.put,bd])
   refine wpAnyH_ready (rs:=[6,7]) (by kernel_rfl) (by simp) (AllReadyH.cons rfl (fun K hK=>?_) (AllReadyH.cons rfl (fun K hK=>?_) AllReadyH.nil))
   ·go_simp
    refine(n6 ay 1 (v.kd:Nat) 0 4 _ none 0 0 SP _ hsp).mono ?_
    rintro e w6 ⟨rfl,hf6⟩
    have hr6:Fr (fun _=>False) _ w6:=hr5.trans hf6 (fun _ _ h=>h)
    try dsimp only
    (try clear hHeld)
    refine hK.out _ _ ((aa HS1) _ hr6) (fun hHeld=>?_)
    clear hK K
    (try simp only[Act.put,bd])
    refine wpAnyH_ready (rs:=[7]) (by kernel_rfl) (by simp) (AllReadyH.cons rfl (fun K hK=>?_) AllReadyH.nil)
    go_simp
    (try clear hHeld)
    refine hK.out _ _ ((aa HS1) _ (hr6.alloc _)) (fun hHeld=>?_)
    clear hK K
    (try simp only[Act.put,bd])
    obtain⟨W7,hst,hb7,hf7,hg7⟩:=tD (w:=w6) [.string ay,.int .i64 1,.int .u64 (v.kd:Nat),.slice none 0 0,.int .i64 (SW:Nat)] (Fr.refl _ _) rfl (by simp[Value.oneCell'])
    have HST:=ae hst
    have hr7:Fr (fun _=>False) W1 W7:=hr6.trans hf7 (fun _ _ h=>h)
    have HX7:=ae (And.intro hb7 (And.intro hr7 (show W1.heap.size≤w6.heap.size from hr6.size)))
    refine wpAnyH_ready (rs:=[8]) (by kernel_rfl) (by simp) (AllReadyH.cons rfl (fun K hK=>?_) AllReadyH.nil)
    refine jv rfl 110 (.tmp 3) (.tmp 11) rfl _ _ (by simp[Act.eval]) (by simp[Act.eval]) (aa HST) ?_
    (try clear hHeld)
    refine hK.out _ _ ((aa HS1) _ hr7) (fun hHeld=>?_)
    clear hK K
    (try simp only[Act.put,bd])
    refine wpAnyH_done (by kernel_rfl) ?_ _
    clear hHeld
    clear hst hb7 hf7 hg7 hr7 hr5 hr6 hf5 hf6
    go_wp2_with fail
    go_meet
    case rel=>exact⟨_,rfl,(aa HX7).2.2,(aa HX7).1,(aa HX7).2.1⟩
   ·go_simp
    (try clear hHeld)
    refine hK.out _ _ ((aa HS1) _ (hr5.alloc _)) (fun hHeld=>?_)
    clear hK K
    (try simp only[Act.put,bd])
    refine wpAnyH_ready (rs:=[6]) (by kernel_rfl) (by simp) (AllReadyH.cons rfl (fun K hK=>?_) AllReadyH.nil)
    go_simp
    refine(n6 ay 1 (v.kd:Nat) 0 4 _ none 0 0 SP _ hsp).mono ?_
    rintro e w6 ⟨rfl,hf6⟩
    have hr6:Fr (fun _=>False) _ w6:=(hr5.alloc _).trans hf6 (fun _ _ h=>h)
    try dsimp only
    (try clear hHeld)
    refine hK.out _ _ ((aa HS1) _ hr6) (fun hHeld=>?_)
    clear hK K
    (try simp only[Act.put,bd])
    obtain⟨W7,hst,hb7,hf7,hg7⟩:=tD (w:=w5) [.string ay,.int .i64 1,.int .u64 (v.kd:Nat),.slice none 0 0,.int .i64 (SW:Nat)] (hf6) rfl (by simp[Value.oneCell'])
    have HST:=ae hst
    have hr7:Fr (fun _=>False) W1 W7:=hr5.trans hf7 (fun _ _ h=>h)
    have HX7:=ae (And.intro hb7 (And.intro hr7 (show W1.heap.size≤w5.heap.size from hr5.size)))
    refine wpAnyH_ready (rs:=[8]) (by kernel_rfl) (by simp) (AllReadyH.cons rfl (fun K hK=>?_) AllReadyH.nil)
    refine jv rfl 110 (.tmp 3) (.tmp 11) rfl _ _ (by simp[Act.eval]) (by simp[Act.eval]) (aa HST) ?_
    (try clear hHeld)
    refine hK.out _ _ ((aa HS1) _ hr7) (fun hHeld=>?_)
    clear hK K
    (try simp only[Act.put,bd])
    refine wpAnyH_done (by kernel_rfl) ?_ _
    clear hHeld
    clear hst hb7 hf7 hg7 hr7 hr5 hr6 hf5 hf6
    go_wp2_with fail
    go_meet
    case rel=>exact⟨_,rfl,(aa HX7).2.2,(aa HX7).1,(aa HX7).2.1⟩
  ·go_simp
   (try clear hHeld)
   refine hK.out _ _ ((aa HS1) _ ((Fr.refl _ _).drew.alloc _)) (fun hHeld=>?_)
   clear hK K
   (try simp only[Act.put,bd])
   refine wpAnyH_ready (rs:=[5]) (by kernel_rfl) (by simp) (AllReadyH.cons rfl (fun K hK=>?_) AllReadyH.nil)
   go_simp
   refine((aa HSp) _).mono ?_
   rintro e w5 ⟨rfl,hf5⟩
   have hr5:Fr (fun _=>False) _ w5:=((Fr.refl _ _).drew.alloc _).trans hf5 (fun _ _ h=>h)
   try dsimp only
   (try clear hHeld)
   refine hK.out _ _ ((aa HS1) _ hr5) (fun hHeld=>?_)
   clear hK K
   (try simp only[Act.put,bd])
   refine wpAnyH_ready (rs:=[6]) (by kernel_rfl) (by simp) (AllReadyH.cons rfl (fun K hK=>?_) AllReadyH.nil)
   go_simp
   refine(n6 ay 1 (v.kd:Nat) 0 4 _ none 0 0 SP _ hsp).mono ?_
   rintro e w6 ⟨rfl,hf6⟩
   have hr6:Fr (fun _=>False) _ w6:=hr5.trans hf6 (fun _ _ h=>h)
   try dsimp only
   (try clear hHeld)
   refine hK.out _ _ ((aa HS1) _ hr6) (fun hHeld=>?_)
   clear hK K
   (try simp only[Act.put,bd])
   obtain⟨W7,hst,hb7,hf7,hg7⟩:=tD (w:=W1.drew) [.string ay,.int .i64 1,.int .u64 (v.kd:Nat),.slice none 0 0,.int .i64 (SW:Nat)] (hf5.trans hf6 (fun _ _ h=>h)) rfl (by simp[Value.oneCell'])
   have HST:=ae hst
   have hr7:Fr (fun _=>False) W1 W7:=(Fr.refl _ _).drew.trans hf7 (fun _ _ h=>h)
   have HX7:=ae (And.intro hb7 (And.intro hr7 (show W1.heap.size≤W1.drew.heap.size from Nat.le_refl _)))
   refine wpAnyH_ready (rs:=[8]) (by kernel_rfl) (by simp) (AllReadyH.cons rfl (fun K hK=>?_) AllReadyH.nil)
   refine jv rfl 110 (.tmp 3) (.tmp 11) rfl _ _ (by simp[Act.eval]) (by simp[Act.eval]) (aa HST) ?_
   (try clear hHeld)
   refine hK.out _ _ ((aa HS1) _ hr7) (fun hHeld=>?_)
   clear hK K
   (try simp only[Act.put,bd])
   refine wpAnyH_done (by kernel_rfl) ?_ _
   clear hHeld
   clear hst hb7 hf7 hg7 hr7 hr5 hr6 hf5 hf6
   go_wp2_with fail
   go_meet
   case rel=>exact⟨_,rfl,(aa HX7).2.2,(aa HX7).1,(aa HX7).2.1⟩
 case rest =>
  obtain⟨b3,rfl,hb3s,hb3,hfc⟩:=hcut
  rename World=>wc
  clear HSp HS1 hsp
  have k0:=(aa HB) wc hfc 0 _ rfl
  have HR3:=ae (af hb3)
  have HC:=ae (And.intro hb3 (And.intro hfc hb3s))
  clear hb3 hfc hb3s
  go_upto_region 2 with fail
  go_cut [21] from 12 to 21 (fun _ wx=>wx.heap[b3]?=some (.cells #[.string ay,.int .i64 1,.int .u64 (v.kd:Nat),.slice none 0 0,.int .i64 (KW:Nat)] 110)∧Fr (fun _=>False) W1 wx)
  case first =>
   rcases(show(v.kd:Int)<1∨(¬ (v.kd:Int)<1∧¬ (7:Int)<(v.kd:Int))∨(¬ (v.kd:Int)<1∧(7:Int)<(v.kd:Int)) by omega) with ho1|⟨ho1,ho2⟩|⟨ho1,ho2⟩
   ·have hd1:decide ((v.kd:Int)<1)=true:=decide_eq_true ho1
    have eu:(if true=true then (5:Int) else ((SW:Nat):Int))=((KW:Nat):Int):=by
     rw[← aa HK]
     show(5:Int)=_
     rw[if_pos (by omega)]
     rfl
    go_wp2_with ((with_reducible refine aX 12 ?_);refine wpList_load_mid rfl 110 (.tmp 3) rfl b3 0 rfl _ _ (aa HR3) Tryz.underlying110 rfl Tryz.cX ?_)
    refine(n6 ay 1 (v.kd:Nat) ((SW:Nat):Int) 5 _ none 0 0 true _ eu).mono ?_
    rintro e w5 ⟨rfl,hf5⟩
    obtain⟨W6,hst,hb6,hf6⟩:=pj [.string ay,.int .i64 1,.int .u64 (v.kd:Nat),.slice none 0 0,.int .i64 (SW:Nat)] [.string ay,.int .i64 1,.int .u64 (v.kd:Nat),.slice none 0 0,.int .i64 (KW:Nat)] ((hf5.block _ (lt_of_block (aa HC).1) (fun h=>h)).trans (aa HC).1) rfl rfl (by simp[Value.oneCell'])
    have HST:=ae hst
    have HX6:=ae (And.intro hb6 (fW ((aa HC).2.1.trans hf5 (fun _ _ h=>h)) hf6 (fun i hi=>by rw[hi];exact(aa HC).2.2)))
    clear hst hb6 hf6 hf5
    go_wp2_with ((with_reducible refine fx ?_);refine aA rfl 110 (.tmp 3) (.tmp 21) rfl _ _ rfl rfl (aa HST) ?_)
    go_meet
    case rel=>exact⟨(aa HX6).1,(aa HX6).2⟩
   ·have hd1:decide ((v.kd:Int)<1)=false:=decide_eq_false ho1
    have hd2:decide ((7:Int)<(v.kd:Int))=false:=decide_eq_false ho2
    have eu:(if false=true then (5:Int) else ((SW:Nat):Int))=((KW:Nat):Int):=by
     rw[← aa HK]
     show((SW:Nat):Int)=_
     rw[if_neg (by omega),aa HSW]
    go_wp2_with ((with_reducible refine aX 12 ?_);refine wpList_load_mid rfl 110 (.tmp 3) rfl b3 0 rfl _ _ (aa HR3) Tryz.underlying110 rfl Tryz.cX ?_)
    refine(n6 ay 1 (v.kd:Nat) ((SW:Nat):Int) 5 _ none 0 0 false _ eu).mono ?_
    rintro e w5 ⟨rfl,hf5⟩
    obtain⟨W6,hst,hb6,hf6⟩:=pj [.string ay,.int .i64 1,.int .u64 (v.kd:Nat),.slice none 0 0,.int .i64 (SW:Nat)] [.string ay,.int .i64 1,.int .u64 (v.kd:Nat),.slice none 0 0,.int .i64 (KW:Nat)] ((hf5.block _ (lt_of_block (aa HC).1) (fun h=>h)).trans (aa HC).1) rfl rfl (by simp[Value.oneCell'])
    have HST:=ae hst
    have HX6:=ae (And.intro hb6 (fW ((aa HC).2.1.trans hf5 (fun _ _ h=>h)) hf6 (fun i hi=>by rw[hi];exact(aa HC).2.2)))
    clear hst hb6 hf6 hf5
    go_wp2_with ((with_reducible refine fx ?_);refine aA rfl 110 (.tmp 3) (.tmp 21) rfl _ _ rfl rfl (aa HST) ?_)
    go_meet
    case rel=>exact⟨(aa HX6).1,(aa HX6).2⟩
   ·have hd1:decide ((v.kd:Int)<1)=false:=decide_eq_false ho1
    have hd2:decide ((7:Int)<(v.kd:Int))=true:=decide_eq_true ho2
    have eu:(if true=true then (5:Int) else ((SW:Nat):Int))=((KW:Nat):Int):=by
     rw[← aa HK]
     show(5:Int)=_
     rw[if_pos (by omega)]
     rfl
    go_wp2_with ((with_reducible refine aX 12 ?_);refine wpList_load_mid rfl 110 (.tmp 3) rfl b3 0 rfl _ _ (aa HR3) Tryz.underlying110 rfl Tryz.cX ?_)
    refine(n6 ay 1 (v.kd:Nat) ((SW:Nat):Int) 5 _ none 0 0 true _ eu).mono ?_
    rintro e w5 ⟨rfl,hf5⟩
    obtain⟨W6,hst,hb6,hf6⟩:=pj [.string ay,.int .i64 1,.int .u64 (v.kd:Nat),.slice none 0 0,.int .i64 (SW:Nat)] [.string ay,.int .i64 1,.int .u64 (v.kd:Nat),.slice none 0 0,.int .i64 (KW:Nat)] ((hf5.block _ (lt_of_block (aa HC).1) (fun h=>h)).trans (aa HC).1) rfl rfl (by simp[Value.oneCell'])
    have HST:=ae hst
    have HX6:=ae (And.intro hb6 (fW ((aa HC).2.1.trans hf5 (fun _ _ h=>h)) hf6 (fun i hi=>by rw[hi];exact(aa HC).2.2)))
    clear hst hb6 hf6 hf5
    go_wp2_with ((with_reducible refine fx ?_);refine aA rfl 110 (.tmp 3) (.tmp 21) rfl _ _ rfl rfl (aa HST) ?_)
    go_meet
    case rel=>exact⟨(aa HX6).1,(aa HX6).2⟩
  case rest =>
   obtain⟨hb3,hfc⟩:=hcut
   rename World=>wd
   clear k0 HR3
   have HR3:=ae (af hb3)
   have hP:=PL.lit wd W1.heap.size ([⟨⟨ay,1,v.kd,[],KW⟩,.slice none 0 0⟩]:List PV) hfc.size (fun q hq=>by obtain rfl:=List.mem_singleton.1 hq;exact tj _ _ rfl) (by simp)
   have HP:Hid (PL (wd.alloc (.cells #[.string ay,.int .i64 1,.int .u64 (v.kd:Nat),.slice none 0 0,.int .i64 (KW:Nat)] 110)) W1.heap.size (.slice (some ⟨wd.heap.size,0,none⟩) 1 1) [⟨⟨ay,1,v.kd,[],KW⟩,.slice none 0 0⟩]):=ae hP
   have HD:=ae (hfc.alloc (.cells #[.string ay,.int .i64 1,.int .u64 (v.kd:Nat),.slice none 0 0,.int .i64 (KW:Nat)] 110))
   clear hb3 hfc hP
   go_upto_region 4 with ((with_reducible refine aX 22 ?_);refine wpList_load_mid rfl 110 (.tmp 3) rfl b3 0 rfl _ _ (aa HR3) Tryz.underlying110 rfl Tryz.cX ?_)
   obtain⟨wk,hwk2⟩:∃ wk,wd.alloc (.cells #[.string ay,.int .i64 1,.int .u64 (v.kd:Nat),.slice none 0 0,.int .i64 (KW:Nat)] 110)=wk:=⟨_,rfl⟩
   rw[hwk2] at HP HD
   (try rw[hwk2])
   clear hwk2 HR3 HC
   have k0:=(aa HB) wk (aa HD) 0 _ rfl
   have hc:∀ (i:Nat) u,([.int .u8 (v.kd:Nat),.int .u32 (v.rq.cl:Nat),.int .u32 (v.rq.nu:Nat),.int .u32 (v.rq.ac:Nat),.int .u8 (v.rq.op:Nat),.int .u32 (v.rq.re:Nat),.int .u32 (v.rq.ve:Nat),.int .u32 (v.rq.wa:Nat),.int .u32 (v.rq.ow:Nat),.slice a0 v.rq.fs.length c0,.string v.rq.rs,.int .u32 (v.icl:Nat),.int .u32 (v.inu:Nat),.int .u32 (v.an.cl:Nat),.int .u32 (v.an.nu:Nat),.int .u8 (v.an.co:Nat),.int .u32 (v.an.re:Nat),.int .u32 (v.an.ve:Nat),.slice a1 v.an.fs.length c1,.slice a2 v.an.hi.length c2,.int .u8 (v.co:Nat),.int .u32 (v.ev.pl:Nat),.int .u32 (v.ev.rq.cl:Nat),.int .u32 (v.ev.rq.nu:Nat),.int .u32 (v.ev.rq.ac:Nat),.int .u8 (v.ev.rq.op:Nat),.int .u32 (v.ev.rq.re:Nat),.int .u32 (v.ev.rq.ve:Nat),.int .u32 (v.ev.rq.wa:Nat),.int .u32 (v.ev.rq.ow:Nat),.slice a3 v.ev.rq.fs.length c3,.string v.ev.rq.rs,.int .u8 (v.ev.co:Nat),.slice a4 v.ev.dg.length c4,.int .u32 (v.le:Nat)]:List Value)[i]?=some u→wk.cell? ⟨w.heap.size,i,none⟩=some u:=(aa HB) wk (aa HD)
   rcases(show v.kd=6∨(v.kd≠1∧v.kd≠2∧v.kd≠3∧v.kd≠4∧v.kd≠5∧v.kd≠6) by have:=aa hk68;omega) with hk|⟨q1,q2,q3,q4,q5,q6⟩
   ·have HKD:=ae hk
    have m1:((v.kd:Int) == 1)=false:=by simp;omega
    have m2:((v.kd:Int) == 2)=false:=by simp;omega
    have m3:((v.kd:Int) == 3)=false:=by simp;omega
    have m4:((v.kd:Int) == 4)=false:=by simp;omega
    have m5:((v.kd:Int) == 5)=false:=by simp;omega
    have m6:((v.kd:Int) == 6)=true:=by simp;omega
    clear hk
    have k34:=hc 34 _ rfl
    clear hc
    go_wp2_with fail
    refine(qx ck v.le (aa HV).1.le _).mono ?_
    rintro e w12 ⟨rfl,hf12⟩
    clear k0 k34
    have hXi:∀ q∈([⟨⟨ck,4,v.le,[],0⟩,.slice none 0 0⟩]:List PV),q.In w12:=fun q hq=>by
     obtain rfl:=List.mem_singleton.1 hq
     exact tj _ _ rfl
    obtain⟨a13,c13,w13,hr,hP11,hf13⟩:=((aa HP).aR hf12).add (Nat.le_trans (aa HD).size hf12.size) _ hXi (Bl.uH (aa HP) (Bl.one (B:=0) (lo:=wk.heap.size)) (Nat.zero_le _) (Nat.le_refl _)) (by simp)
    have HR3:=ae hr
    have hw11:Fr (fun _=>False) W1 w13:=fW ((aa HD).trans hf12 (fun _ _ h=>h)) hf13 (fun i hi=>((aa HP).lt i hi).1)
    have hmp:([⟨⟨ay,1,v.kd,[],KW⟩,.slice none 0 0⟩]++[⟨⟨ck,4,v.le,[],0⟩,.slice none 0 0⟩]:List PV).map PV.p=MD:=by
     rw[aa HM]
     unfold hD
     rw[if_neg (show ¬ v.kd=1 by rw[aa HKD];decide),if_neg (show ¬ v.kd=2 by rw[aa HKD];decide),if_neg (show ¬ v.kd=3 by rw[aa HKD];decide),if_neg (show ¬ v.kd=4 by rw[aa HKD];decide),if_neg (show ¬ v.kd=5 by rw[aa HKD];decide),if_pos (aa HKD)]
     rw[List.map_append]
     rfl
    have HZ:=ae (And.intro (hP11.base (base':=w.heap.size) (Nat.le_of_lt hlt1)) (And.intro hmp (And.intro (show([⟨⟨ay,1,v.kd,[],KW⟩,.slice none 0 0⟩]++[⟨⟨ck,4,v.le,[],0⟩,.slice none 0 0⟩]:List PV).length≤16777216 by have:=(aa HV).2.2.l0;have:=(aa HV).2.2.l1;have:=(aa HV).2.2.l2;have:=(aa HV).2.2.l3;simp[idV] <;> omega) ((aa HF1).trans hw11 (fun _ _ h=>h)))))
    clear hr hP11 hf13 hmp hXi hf12 hw11
    go_wp2_with ((with_reducible refine aX 88 ?_);refine pR rfl (.tmp 83) (.tmp 87) 74 74 rfl _ _ _ rfl rfl (aa HR3) ?_)
    go_ret
    exact⟨_,_,rfl,(aa HZ).1,(aa HZ).2.1,(aa HZ).2.2.1,(aa HZ).2.2.2⟩
   ·have m1:((v.kd:Int) == 1)=false:=by simp;omega
    have m2:((v.kd:Int) == 2)=false:=by simp;omega
    have m3:((v.kd:Int) == 3)=false:=by simp;omega
    have m4:((v.kd:Int) == 4)=false:=by simp;omega
    have m5:((v.kd:Int) == 5)=false:=by simp;omega
    have m6:((v.kd:Int) == 6)=false:=by simp;omega
    have HKD:=ae (And.intro q1 (And.intro q2 (And.intro q3 (And.intro q4 (And.intro q5 q6)))))
    clear q1 q2 q3 q4 q5 q6 hc
    have hmp:([⟨⟨ay,1,v.kd,[],KW⟩,.slice none 0 0⟩]:List PV).map PV.p=MD:=by
     rw[aa HM]
     unfold hD
     rw[if_neg (aa HKD).1,if_neg (aa HKD).2.1,if_neg (aa HKD).2.2.1,if_neg (aa HKD).2.2.2.1,if_neg (aa HKD).2.2.2.2.1,if_neg (aa HKD).2.2.2.2.2]
     rfl
    have HZ:=ae (And.intro ((aa HP).base (base':=w.heap.size) (Nat.le_of_lt hlt1)) (And.intro hmp (And.intro (show([⟨⟨ay,1,v.kd,[],KW⟩,.slice none 0 0⟩]:List PV).length≤16777216 by simp) ((aa HF1).trans (aa HD) (fun _ _ h=>h)))))
    clear hmp
    go_wp2_with fail
    go_ret
    exact⟨_,_,rfl,(aa HZ).1,(aa HZ).2.1,(aa HZ).2.2.1,(aa HZ).2.2.2⟩
def BF:cd:={ kn with kd:=6,le:=5 }
def pJ:cd:={ kn with kd:=6,co:=1 }
def vY:cd:={ kn with kd:=8 }
def A2:dv:=⟨1,2,3,3,4,0,0,0,[],⟨#[]⟩⟩
def CY:dv:=⟨0,0,0,3,0,0,1,0,[],⟨#[]⟩⟩
def yY:cj:=⟨⟨#[98]⟩,3,⟨#[]⟩,0,0⟩
def qU:cj:=⟨⟨#[97]⟩,3,⟨#[]⟩,0,0⟩
def zu:cj:=⟨⟨#[116]⟩,2,⟨#[]⟩,1108475904,11⟩
def CZ:dv:=⟨0,0,0,2,0,0,0,0,[yY,qU],⟨#[]⟩⟩
def C0:dv:=⟨0,0,0,1,0,0,0,0,[qU],⟨#[]⟩⟩
def Ca:gr:=⟨0,0,0,0,0,[zu],[]⟩
theorem CG:(cy BF).f=none:=by kernel_rfl
theorem Cj:(cy BF).out=[7,6,0,0,0,5]:=by kernel_rfl
theorem Cy:(cy pJ).f=some (ay,1,4):=by kernel_rfl
theorem Cl:(cI A2).f=none:=by kernel_rfl
theorem Ci:(cI A2).out=[1,0,0,0,1,0,0,0,2,0,0,0,3,3,0,0,0,4,0,0,0,0,0,0,0,0,0,0,0,0,0,0,0,0,0,0,0,0]:=by kernel_rfl
theorem Cf:(cI CY).f=some (gF,22,4):=by kernel_rfl
theorem CA:(cI CZ).f=some (bE,40,6):=by kernel_rfl
theorem Ct:(cI C0).f=some (ay,39,5):=by kernel_rfl
theorem Ck:(eG Ca).f=none:=by kernel_rfl
theorem uk:(gz 258 [7]).f=none∧(gz 258 [7]).out=[4,0,0,1,258,0,0,0,1,7]:=⟨by kernel_rfl,by kernel_rfl⟩
theorem n8:(bq [4,0,0,1,2,0,0,0,1,7]).1.rq.fin.2.2=0∧(bq [4,0,0,1,2,0,0,0,1,7]).2.1=258:=⟨by kernel_rfl,by kernel_rfl⟩
theorem tY:(bq []).1.rq.fin.2.2=1:=by kernel_rfl
theorem eC (w:World) (l:List Nat) (vs:Array Value) (t:TypeId) (hv:vs.toList=cellsOf l) (hl:l.length<9223372036854775808):nG (w.alloc (.cells vs t)) (.slice (some ⟨w.heap.size,0,none⟩) l.length l.length) l:=by
 refine⟨.inr (.inl ⟨w.heap.size,0,l.length,rfl,fun j v hj=>?_⟩),fun g o m c e=>by cases e;simp,hl⟩
 rw[World.cell?_alloc_at _ _ _ _ rfl,Nat.zero_add,← Array.getElem?_toList,hv]
 exact hj
theorem Bi (E:Nat→Addr) (w:World) (hg:G6 w E) (hw:9≤w.heap.size) :
  Calls Tryz.prog 7 #[] w fun e w'=>e = .returned (.bool true)∧Fr (fun _=>False) w w':=by
 have H:=ae hg
 have HP:=ae (uh 258 [7] (.slice (some ⟨w.heap.size,0,none⟩) 1 1) E (w.alloc (.cells #[.int .u8 7] 5)) (hg.fr (al _ _) (fun _ h=>h.elim)) (by simp;omega) (eC w [7] #[.int .u8 7] _ rfl (by decide)) (by decide))
 clear hg
 go_enter Tryz.func7,Tryz.ntmps7
 go_wp2_with fail
 refine(aa HP).mono ?_
 rintro e w1 ⟨v,err,rfl,hown,hE,hf1⟩
 rw[uk.1] at hE
 rw[uk.2] at hown
 obtain⟨vo,vc,rfl⟩:=di hown
 have hen:err = .nilIface:=by
  rcases hE with ⟨_,h⟩|⟨h,_⟩
  ·exact h
  ·exact absurd h (by decide)
 subst hen
 have hf01:Fr (fun _=>False) w w1:=(al w _).trans hf1 (fun _ _ h=>h)
 have H1:=ae (And.intro hown hf01)
 clear hown hE hf1 hf01
 go_wp2_with fail
 have hfb:=al w1 (.cells #[.int .u8 4,.int .u8 0,.int .u8 0,.int .u8 1,.int .u8 2,.int .u8 0,.int .u8 0,.int .u8 0,.int .u8 1,.int .u8 7] 5)
 refine(ob (.slice (some ⟨w1.heap.size,0,none⟩) 10 10) [4,0,0,1,2,0,0,0,1,7] E _ ((aa H).fr ((aa H1).2.trans hfb (fun _ _ h=>h)) (fun _ h=>h.elim)) (by have:=(aa H1).2.size;simp;omega) (eC w1 [4,0,0,1,2,0,0,0,1,7] _ _ rfl (by decide)).src (by decide)).mono ?_
 rintro e w2 ⟨vs,err2,rfl,hE2,hz2,hr2,hf2⟩
 clear hz2
 obtain⟨y,rfl,hy⟩:=hr2 n8.1
 rw[n8.2]
 have hen2:err2 = .nilIface:=by
  rcases hE2 with ⟨_,h⟩|⟨h,_⟩
  ·exact h
  ·rw[n8.1] at h;exact absurd h (by decide)
 subst hen2
 obtain⟨yo,yc,rfl⟩:=di hy
 generalize (bq [4,0,0,1,2,0,0,0,1,7]).2.2.length=yn at *
 have hf02:=(aa H1).2.trans (hfb.trans hf2 (fun _ _ h=>h)) (fun _ _ h=>h)
 have hf12:=hfb.trans hf2 (fun _ _ h=>h)
 have H2:=ae (And.intro hf02 hf12)
 clear hy hr2 hE2 hf2 hfb hf02 hf12
 go_wp2_with fail
 have hfc:=al w2 (.cells #[.int .u32 258,.slice yo yn yc] 25)
 refine(ob (.slice none 0 0) [] E _ ((aa H).fr ((aa H2).1.trans hfc (fun _ _ h=>h)) (fun _ h=>h.elim)) (by have:=(aa H2).1.size;simp;omega) (.inl ⟨rfl,rfl⟩) (by decide)).mono ?_
 rintro e w3 ⟨vs3,err3,rfl,hE3,hz3,hr3,hf3⟩
 obtain rfl:=hz3 (by rw[tY];decide)
 obtain⟨fb,rfl⟩:∃ fb,err3 = .iface 78 (.pointer (some ⟨fb,0,none⟩)):=by
  rcases hE3 with ⟨h,_⟩|⟨_,_,fb,h,_⟩
  ·rw[tY] at h;exact absurd h (by decide)
  ·exact⟨fb,h⟩
 have hf13:=(aa H2).2.trans (hfc.trans hf3 (fun _ _ h=>h)) (fun _ _ h=>h)
 have hf03:=(aa H2).1.trans (hfc.trans hf3 (fun _ _ h=>h)) (fun _ _ h=>h)
 have hcz:w3.cell? ⟨w2.heap.size,0,none⟩=some (.int .u32 258):=(hf3.cell (p:=⟨w2.heap.size,0,none⟩) (by simp) (fun h=>h)).trans (by simp)
 have hlz:=ab hcz
 have hsrc:Src w3 (.slice vo 10 vc) [4,0,0,1,258,0,0,0,1,7]:=(bR (aa H1).1).fr hf13 (fun _ _ _ _ _ h=>h)
 have H3:=ae (And.intro hsrc hf03)
 have hS0:Fr (fun _=>False) w3 w3:=Fr.refl _ _
 clear hz3 hr3 hE3 hf3 hfc hf13 hf03 hsrc
 go_wp2_with fail
 have hfd:=aY w3 (.cells #[.int .u32 0,.slice none 0 0] 25) (.cells #[.int .u8 4,.int .u8 0,.int .u8 0,.int .u8 1,.int .u8 2,.int .u8 0,.int .u8 0,.int .u8 0,.int .u8 1,.int .u8 7] 5)
 have hlit:Src ((w3.alloc (.cells #[.int .u32 0,.slice none 0 0] 25)).alloc (.cells #[.int .u8 4,.int .u8 0,.int .u8 0,.int .u8 1,.int .u8 2,.int .u8 0,.int .u8 0,.int .u8 0,.int .u8 1,.int .u8 7] 5)) (.slice (some ⟨w3.heap.size+1,0,none⟩) 10 10) [4,0,0,1,2,0,0,0,1,7]:=by
  have:=(eC (w3.alloc (.cells #[.int .u32 0,.slice none 0 0] 25)) [4,0,0,1,2,0,0,0,1,7] #[.int .u8 4,.int .u8 0,.int .u8 0,.int .u8 1,.int .u8 2,.int .u8 0,.int .u8 0,.int .u8 0,.int .u8 1,.int .u8 7] 5 rfl (by decide)).src
  simpa using this
 refine(eM _ _ [4,0,0,1,258,0,0,0,1,7] [4,0,0,1,2,0,0,0,1,7] _ ((aa H3).1.fr hfd (fun _ _ _ _ _ h=>h)) hlit (by decide)).mono ?_
 rintro e w4 ⟨rfl,nd,rfl⟩
 have hsb:eE [4,0,0,1,258,0,0,0,1,7] [4,0,0,1,2,0,0,0,1,7]=true:=by decide
 rw[hsb]
 have hfd4:=(Fr.drewN (S:=fun _=>False) hfd nd)
 have hcz4:=(hfd4.cell (p:=⟨w2.heap.size,0,none⟩) hlz (fun h=>h)).trans hcz
 have H4:=ae ((aa H3).2.trans hfd4 (fun _ _ h=>h))
 clear hlit hsb hfd hfd4
 go_wp2_with fail
 go_ret
 exact⟨rfl,aa H4⟩
def Q.aj (q:Q) (s:ByteArray):Q:=if q.f=none then q.named s else q
theorem Q.gW {q:Q} (h:q.ok) (s:ByteArray):(q.aj s).ok:=by
 unfold Q.aj;split
 ·exact Q.bt h s
 ·exact h
theorem Q.dT (q:Q) (s:ByteArray):(q.aj s).all=q.all:=by unfold Q.aj;split <;> rfl
theorem Q.gN (q:Q) (s:ByteArray):(q.aj s).f=q.f:=by unfold Q.aj;split <;> rfl
theorem Q.rn (q:Q) (s:ByteArray):(q.aj s).part=q.part:=by unfold Q.aj;split <;> rfl
theorem jf {q:Q} (h:q.ok):(dn q.f).2.2=0↔q.f=none:=by
 cases hf:q.f with
 | none=>simp[dn]
 | some y =>
  have:=(h.f y hf).2.1
  simp[dn]
  omega
theorem eX (xo:Option Addr) (len xc:Nat) (place last fa fy:Int) (nm fw:ByteArray) (w:World) :
  Calls Tryz.prog 58 #[aV xo len xc place last nm fw fa fy] w fun e w'=>e = .returned (.bool (fy == 0))∧w'=w.alloc (.cells #[.slice xo len xc,.int .i64 place,.int .i64 last,.string nm,.string fw,.int .i64 fa,.int .i64 fy] 120):=by
 unfold aV
 go_enter Tryz.func58,Tryz.ntmps58
 go_wp2_with fail
 go_ret
 exact⟨rfl,rfl⟩
theorem zC (xo:Option Addr) (len xc:Nat) (place last fa fy n:Int) (nm fw:ByteArray) (w:World) :
  Calls Tryz.prog 99 #[aV xo len xc place last nm fw fa fy,.bool false,.int .i64 n] w fun e w'=>e = .returned (aV xo len xc place last nm fw fa fy)∧Fr (fun _=>False) w w':=by
 unfold aV
 go_enter Tryz.func99,Tryz.ntmps99
 go_wp2_with fail
 refine bodyPost_ret (v:=.agg #[.slice xo len xc,.int .i64 place,.int .i64 last,.string nm,.string fw,.int .i64 fa,.int .i64 fy]) (by simp[results,Tryz.results99,go_sem]) rfl ⟨rfl,?_⟩
 exact aY _ _ _
theorem tB (xo:Option Addr) (len xc:Nat) (place last fa fy n:Int) (nm fw:ByteArray) (w:World) (hy:fy≠0) :
  Calls Tryz.prog 99 #[aV xo len xc place last nm fw fa fy,.bool true,.int .i64 n] w fun e w'=>e = .returned (aV xo len xc place last nm fw fa fy)∧Fr (fun _=>False) w w':=by
 have hd:(fy == 0)=false:=by simp[hy]
 have HG:=ae (fun w'=>eX xo len xc place last fa fy nm fw w')
 unfold aV at *
 go_enter Tryz.func99,Tryz.ntmps99
 go_wp2_with fail
 refine((aa HG) _).mono ?_
 rintro e w1 ⟨rfl,rfl⟩
 rw[hd]
 go_wp2_with fail
 refine bodyPost_ret (v:=.agg #[.slice xo len xc,.int .i64 place,.int .i64 last,.string nm,.string fw,.int .i64 fa,.int .i64 fy]) (by simp[results,Tryz.results99,go_sem]) rfl ⟨rfl,?_⟩
 exact aI _ _ _ _
theorem wD (xo:Option Addr) (len xc:Nat) (place last fa n:Int) (nm fw:ByteArray) (w:World) :
  Calls Tryz.prog 99 #[aV xo len xc place last nm fw fa 0,.bool true,.int .i64 n] w fun e w'=>e = .returned (aV xo len xc last last nm nm last n)∧Fr (fun _=>False) w w':=by
 have hd:((0:Int) == 0)=true:=rfl
 have HG:=ae (fun w'=>eX xo len xc place last fa 0 nm fw w')
 unfold aV at *
 go_enter Tryz.func99,Tryz.ntmps99
 go_wp2_with fail
 refine((aa HG) _).mono ?_
 rintro e w1 ⟨rfl,rfl⟩
 rw[hd]
 go_wp2_with fail
 refine bodyPost_ret (v:=.agg #[.slice xo len xc,.int .i64 last,.int .i64 last,.string nm,.string nm,.int .i64 last,.int .i64 n]) (by simp[results,Tryz.results99,go_sem]) rfl ⟨rfl,?_⟩
 exact aI _ _ _ _
theorem pX (q:Q) (xo:Option Addr) (xc last:Nat) (so:Bool) (n:Nat) (w:World) (hq:q.ok) (hn:1≤n) (hla:q.f=none→last=q.part) :
  Calls Tryz.prog 99 #[q.ref xo xc last,.bool so,.int .i64 (n:Nat)] w fun e w'=>∃ last',e = .returned ((q.ah (if so then n else 0)).ref xo xc last')∧((q.ah (if so then n else 0)).f=none→last'=(q.ah (if so then n else 0)).part)∧Fr (fun _=>False) w w':=by
 cases so with
 | false =>
  have e0:q.ah (if false=true then n else 0)=q:=by simp[Q.ah]
  rw[e0]
  exact(zC _ _ _ _ _ _ _ _ _ _ w).mono (fun e w' h=>⟨last,h.1,hla,h.2⟩)
 | true =>
  by_cases hf:q.f=none
  ·have e0:q.ah (if true=true then n else 0) = { q with f:=some (q.nm,q.part,n) } := by
    simp[Q.ah,hf];omega
   rw[e0]
   have hl:=hla hf
   have hg:=wD xo q.all.length xc (q.at_:Nat) (last:Nat) ((dn q.f).2.1:Nat) (n:Nat) q.nm (dn q.f).1 w
   have e1:q.ref xo xc last=aV xo q.all.length xc (q.at_:Nat) (last:Nat) q.nm (dn q.f).1 ((dn q.f).2.1:Nat) 0:=by
    unfold Q.ref
    rw[hf]
    rfl
   rw[e1]
   refine hg.mono ?_
   rintro e w' ⟨rfl,hf'⟩
   refine⟨last,?_,fun h=>(by cases h),hf'⟩
   rw[hl]
   rfl
  ·have e0:q.ah (if true=true then n else 0)=q:=by simp[Q.ah,hf]
   rw[e0]
   have hy:((dn q.f).2.2:Int)≠0:=fun e=>hf ((jf hq).1 (by omega))
   exact(tB _ _ _ _ _ _ _ _ _ _ w hy).mono (fun e w' h=>⟨last,h.1,hla,h.2⟩)
theorem vI (w:World) (a b c:Obj):(((w.alloc a).alloc b).alloc c).heap[w.heap.size]?=some a∧(((w.alloc a).alloc b).alloc c).heap[w.heap.size+1]?=some b∧(((w.alloc a).alloc b).alloc c).heap.size=w.heap.size+3:=by
 have s1:(w.alloc a).heap.size=w.heap.size+1:=by simp
 have s2:((w.alloc a).alloc b).heap.size=w.heap.size+2:=by simp
 refine⟨?_,?_,by simp⟩
 ·rw[Below.heap_alloc _ _ _ (by omega),Below.heap_alloc _ _ _ (by omega)]
  exact heap_alloc_new w a
 ·rw[Below.heap_alloc _ _ _ (by omega),← s1]
  exact heap_alloc_new _ b
theorem vV (xo:Option Addr) (len xc:Nat) (place last fa k:Int) (nm0 fw nm:ByteArray) (w:World) (P:Int→Int→ByteArray→ByteArray→Int→Int→Nat→World→Prop)
  (hread:∀ w',Fr (fun _=>False) w w'→Calls Tryz.prog 125 #[aV xo len xc place last nm fw fa 0,.agg #[.int .i64 k,.int .u64 0,.string ⟨#[]⟩,.int .i64 0,.int .i64 0]] w' fun e w''=>∃ p' l' n' f' a' y' v sx sn sc,e = .returned (.tuple #[aV xo len xc p' l' n' f' a' y',.int .u64 (v:Nat),.slice sx sn sc])∧P p' l' n' f' a' y' v w''∧Fr (fun _=>False) w' w'')
  (hP:∀ p' l' n' f' a' y' v w1 w2,P p' l' n' f' a' y' v w1→Fr (fun k=>k=w.heap.size∨k=w.heap.size+1) w1 w2→P p' l' n' f' a' y' v w2) :
  Calls Tryz.prog 98 #[aV xo len xc place last nm0 fw fa 0,.string nm,.int .i64 k] w fun e w'=>∃ p' l' n' f' a' y' v,e = .returned (.tuple #[aV xo len xc p' l' n' f' a' y',.int .u64 (v:Nat)])∧P p' l' n' f' a' y' v w'∧Fr (fun _=>False) w w':=by
 have hd:((0:Int) == 0)=true:=rfl
 have HG:=ae (fun w'=>eX xo len xc place last fa 0 nm0 fw w')
 have HR:=ae hread
 have HP:=ae hP
 clear hread hP
 unfold aV at *
 go_enter Tryz.func98,Tryz.ntmps98
 go_wp2_with fail
 refine((aa HG) _).mono ?_
 rintro e w1 ⟨rfl,rfl⟩
 rw[hd]
 go_wp2_with fail
 refine((aa HR) _ (aI _ _ _ _)).mono ?_
 rintro e w5 ⟨p',l',n',f',a',y',v,sx,sn,sc,rfl,hp5,hf5⟩
 have hs3:=(vI w (.cells #[.slice xo len xc,.int .i64 place,.int .i64 last,.string nm,.string fw,.int .i64 fa,.int .i64 0] 120) (.cells #[.slice none 0 0,.int .i64 0,.int .i64 0,.string ⟨#[]⟩,.string ⟨#[]⟩,.int .i64 0,.int .i64 0] 120) (.cells #[.slice xo len xc,.int .i64 place,.int .i64 last,.string nm0,.string fw,.int .i64 fa,.int .i64 0] 120))
 have hb0:=(hf5.block w.heap.size (by rw[hs3.2.2];omega) (fun h=>h)).trans hs3.1
 have hb1:=(hf5.block (w.heap.size+1) (by rw[hs3.2.2];omega) (fun h=>h)).trans hs3.2.1
 have r0:w5.cell? ⟨w.heap.size,0,none⟩=some (.slice xo len xc):=by simp[World.cell?,hb0]
 have r1:w5.cell? ⟨w.heap.size,1,none⟩=some (.int .i64 place):=by simp[World.cell?,hb0]
 have r2:w5.cell? ⟨w.heap.size,2,none⟩=some (.int .i64 last):=by simp[World.cell?,hb0]
 have r3:w5.cell? ⟨w.heap.size,3,none⟩=some (.string nm):=by simp[World.cell?,hb0]
 have r4:w5.cell? ⟨w.heap.size,4,none⟩=some (.string fw):=by simp[World.cell?,hb0]
 have r5:w5.cell? ⟨w.heap.size,5,none⟩=some (.int .i64 fa):=by simp[World.cell?,hb0]
 have r6:w5.cell? ⟨w.heap.size,6,none⟩=some (.int .i64 0):=by simp[World.cell?,hb0]
 have o0:w5.cell? ⟨w.heap.size+1,0,none⟩=some (.slice none 0 0):=by simp[World.cell?,hb1]
 have o1:w5.cell? ⟨w.heap.size+1,1,none⟩=some (.int .i64 0):=by simp[World.cell?,hb1]
 have o2:w5.cell? ⟨w.heap.size+1,2,none⟩=some (.int .i64 0):=by simp[World.cell?,hb1]
 have o3:w5.cell? ⟨w.heap.size+1,3,none⟩=some (.string ⟨#[]⟩):=by simp[World.cell?,hb1]
 have o4:w5.cell? ⟨w.heap.size+1,4,none⟩=some (.string ⟨#[]⟩):=by simp[World.cell?,hb1]
 have o5:w5.cell? ⟨w.heap.size+1,5,none⟩=some (.int .i64 0):=by simp[World.cell?,hb1]
 have o6:w5.cell? ⟨w.heap.size+1,6,none⟩=some (.int .i64 0):=by simp[World.cell?,hb1]
 have rz:∀ i,w5.frozen? ⟨w.heap.size,i,none⟩=false:=fun i=>by simp[World.frozen?,hb0]
 have oz:∀ i,w5.frozen? ⟨w.heap.size+1,i,none⟩=false:=fun i=>by simp[World.frozen?,hb1]
 clear hs3 hb0 hb1
 have hlr:=ab r0
 have hlo:=ab o0
 have hf05:Fr (fun _=>False) w w5:=(aI _ _ _ _).trans hf5 (fun _ _ h=>h)
 have H5:=ae (And.intro hp5 hf05)
 clear hp5 hf5 hf05
 go_wp2_with fail
 refine bodyPost_ret (v:=.tuple #[.agg #[.slice xo len xc,.int .i64 p',.int .i64 l',.string n',.string f',.int .i64 a',.int .i64 y'],.int .u64 (v:Nat)]) (by simp[results,Tryz.results98,go_sem,o0,o1,o2,o3,o4,o5,o6]) rfl ?_
 exact⟨p',l',n',f',a',y',v,rfl,(aa HP) _ _ _ _ _ _ _ _ _ (aa H5).1 (((((((((((((((Fr.refl (fun k=>k=w.heap.size∨k=w.heap.size+1) w5).setCell (.inl (.inl rfl)) _).setCell (.inl (.inl rfl)) _).setCell (.inl (.inl rfl)) _).setCell (.inl (.inl rfl)) _).setCell (.inl (.inl rfl)) _).setCell (.inl (.inl rfl)) _).setCell (.inl (.inl rfl)) _).setCell (.inl (.inr rfl)) _).setCell (.inl (.inr rfl)) _).setCell (.inl (.inr rfl)) _).setCell (.inl (.inr rfl)) _).setCell (.inl (.inr rfl)) _).setCell (.inl (.inr rfl)) _).setCell (.inl (.inr rfl)) _),(((((((((((((((aa H5).2).setCell (.inr (Nat.le_refl _)) _).setCell (.inr (Nat.le_refl _)) _).setCell (.inr (Nat.le_refl _)) _).setCell (.inr (Nat.le_refl _)) _).setCell (.inr (Nat.le_refl _)) _).setCell (.inr (Nat.le_refl _)) _).setCell (.inr (Nat.le_refl _)) _).setCell (.inr (Nat.le_succ _)) _).setCell (.inr (Nat.le_succ _)) _).setCell (.inr (Nat.le_succ _)) _).setCell (.inr (Nat.le_succ _)) _).setCell (.inr (Nat.le_succ _)) _).setCell (.inr (Nat.le_succ _)) _).setCell (.inr (Nat.le_succ _)) _⟩
theorem sC (xo:Option Addr) (len xc:Nat) (place last fa fy k:Int) (nm0 fw nm:ByteArray) (w:World) (hy:fy≠0) (P:Int→Int→ByteArray→ByteArray→Int→Int→Nat→World→Prop)
  (hread:∀ w',Fr (fun _=>False) w w'→Calls Tryz.prog 125 #[aV xo len xc place last nm0 fw fa fy,.agg #[.int .i64 k,.int .u64 0,.string ⟨#[]⟩,.int .i64 0,.int .i64 0]] w' fun e w''=>∃ p' l' n' f' a' y' v sx sn sc,e = .returned (.tuple #[aV xo len xc p' l' n' f' a' y',.int .u64 (v:Nat),.slice sx sn sc])∧P p' l' n' f' a' y' v w''∧Fr (fun _=>False) w' w'')
  (hP:∀ p' l' n' f' a' y' v w1 w2,P p' l' n' f' a' y' v w1→Fr (fun k=>k=w.heap.size∨k=w.heap.size+1) w1 w2→P p' l' n' f' a' y' v w2) :
  Calls Tryz.prog 98 #[aV xo len xc place last nm0 fw fa fy,.string nm,.int .i64 k] w fun e w'=>∃ p' l' n' f' a' y' v,e = .returned (.tuple #[aV xo len xc p' l' n' f' a' y',.int .u64 (v:Nat)])∧P p' l' n' f' a' y' v w'∧Fr (fun _=>False) w w':=by
 have hd:(fy == 0)=false:=by simp[hy]
 have HG:=ae (fun w'=>eX xo len xc place last fa fy nm0 fw w')
 have HR:=ae hread
 have HP:=ae hP
 clear hread hP
 unfold aV at *
 go_enter Tryz.func98,Tryz.ntmps98
 go_wp2_with fail
 refine((aa HG) _).mono ?_
 rintro e w1 ⟨rfl,rfl⟩
 rw[hd]
 go_wp2_with fail
 refine((aa HR) _ (aI _ _ _ _)).mono ?_
 rintro e w5 ⟨p',l',n',f',a',y',v,sx,sn,sc,rfl,hp5,hf5⟩
 have hs3:=(vI w (.cells #[.slice xo len xc,.int .i64 place,.int .i64 last,.string nm0,.string fw,.int .i64 fa,.int .i64 fy] 120) (.cells #[.slice none 0 0,.int .i64 0,.int .i64 0,.string ⟨#[]⟩,.string ⟨#[]⟩,.int .i64 0,.int .i64 0] 120) (.cells #[.slice xo len xc,.int .i64 place,.int .i64 last,.string nm0,.string fw,.int .i64 fa,.int .i64 fy] 120))
 have hb0:=(hf5.block w.heap.size (by rw[hs3.2.2];omega) (fun h=>h)).trans hs3.1
 have hb1:=(hf5.block (w.heap.size+1) (by rw[hs3.2.2];omega) (fun h=>h)).trans hs3.2.1
 have r0:w5.cell? ⟨w.heap.size,0,none⟩=some (.slice xo len xc):=by simp[World.cell?,hb0]
 have r1:w5.cell? ⟨w.heap.size,1,none⟩=some (.int .i64 place):=by simp[World.cell?,hb0]
 have r2:w5.cell? ⟨w.heap.size,2,none⟩=some (.int .i64 last):=by simp[World.cell?,hb0]
 have r3:w5.cell? ⟨w.heap.size,3,none⟩=some (.string nm0):=by simp[World.cell?,hb0]
 have r4:w5.cell? ⟨w.heap.size,4,none⟩=some (.string fw):=by simp[World.cell?,hb0]
 have r5:w5.cell? ⟨w.heap.size,5,none⟩=some (.int .i64 fa):=by simp[World.cell?,hb0]
 have r6:w5.cell? ⟨w.heap.size,6,none⟩=some (.int .i64 fy):=by simp[World.cell?,hb0]
 have o0:w5.cell? ⟨w.heap.size+1,0,none⟩=some (.slice none 0 0):=by simp[World.cell?,hb1]
 have o1:w5.cell? ⟨w.heap.size+1,1,none⟩=some (.int .i64 0):=by simp[World.cell?,hb1]
 have o2:w5.cell? ⟨w.heap.size+1,2,none⟩=some (.int .i64 0):=by simp[World.cell?,hb1]
 have o3:w5.cell? ⟨w.heap.size+1,3,none⟩=some (.string ⟨#[]⟩):=by simp[World.cell?,hb1]
 have o4:w5.cell? ⟨w.heap.size+1,4,none⟩=some (.string ⟨#[]⟩):=by simp[World.cell?,hb1]
 have o5:w5.cell? ⟨w.heap.size+1,5,none⟩=some (.int .i64 0):=by simp[World.cell?,hb1]
 have o6:w5.cell? ⟨w.heap.size+1,6,none⟩=some (.int .i64 0):=by simp[World.cell?,hb1]
 have rz:∀ i,w5.frozen? ⟨w.heap.size,i,none⟩=false:=fun i=>by simp[World.frozen?,hb0]
 have oz:∀ i,w5.frozen? ⟨w.heap.size+1,i,none⟩=false:=fun i=>by simp[World.frozen?,hb1]
 clear hs3 hb0 hb1
 have hlr:=ab r0
 have hlo:=ab o0
 have hf05:Fr (fun _=>False) w w5:=(aI _ _ _ _).trans hf5 (fun _ _ h=>h)
 have H5:=ae (And.intro hp5 hf05)
 clear hp5 hf5 hf05
 go_wp2_with fail
 refine bodyPost_ret (v:=.tuple #[.agg #[.slice xo len xc,.int .i64 p',.int .i64 l',.string n',.string f',.int .i64 a',.int .i64 y'],.int .u64 (v:Nat)]) (by simp[results,Tryz.results98,go_sem,o0,o1,o2,o3,o4,o5,o6]) rfl ?_
 exact⟨p',l',n',f',a',y',v,rfl,(aa HP) _ _ _ _ _ _ _ _ _ (aa H5).1 (((((((((((((((Fr.refl (fun k=>k=w.heap.size∨k=w.heap.size+1) w5).setCell (.inl (.inl rfl)) _).setCell (.inl (.inl rfl)) _).setCell (.inl (.inl rfl)) _).setCell (.inl (.inl rfl)) _).setCell (.inl (.inl rfl)) _).setCell (.inl (.inl rfl)) _).setCell (.inl (.inl rfl)) _).setCell (.inl (.inr rfl)) _).setCell (.inl (.inr rfl)) _).setCell (.inl (.inr rfl)) _).setCell (.inl (.inr rfl)) _).setCell (.inl (.inr rfl)) _).setCell (.inl (.inr rfl)) _).setCell (.inl (.inr rfl)) _),(((((((((((((((aa H5).2).setCell (.inr (Nat.le_refl _)) _).setCell (.inr (Nat.le_refl _)) _).setCell (.inr (Nat.le_refl _)) _).setCell (.inr (Nat.le_refl _)) _).setCell (.inr (Nat.le_refl _)) _).setCell (.inr (Nat.le_refl _)) _).setCell (.inr (Nat.le_refl _)) _).setCell (.inr (Nat.le_succ _)) _).setCell (.inr (Nat.le_succ _)) _).setCell (.inr (Nat.le_succ _)) _).setCell (.inr (Nat.le_succ _)) _).setCell (.inr (Nat.le_succ _)) _).setCell (.inr (Nat.le_succ _)) _).setCell (.inr (Nat.le_succ _)) _⟩
theorem yd (q:Q) (nm:ByteArray) (k:Int) (xo:Option Addr) (xc last:Nat) (w:World) (hq:q.ok) (hx:Src w (.slice xo q.all.length xc) q.all) (hlc:q.all.length≤xc) (hl:q.all.length≤16777216) (hk:k=1∨k=4∨k=5) (hla:q.f=none→last=q.part) :
  Calls Tryz.prog 98 #[q.ref xo xc last,.string nm,.int .i64 k] w fun e w'=>∃ last':Nat,e = .returned (.tuple #[((q.aj nm).go k 0).1.ref xo xc last',.int .u64 (((q.aj nm).go k 0).2.1:Nat)])∧(((q.aj nm).go k 0).1.f=none→last'=((q.aj nm).go k 0).1.part)∧Fr (fun _=>False) w w':=by
 have hall:((q.aj nm).go k 0).1.all=q.all:=by rw[Q.go_all,Q.dT]
 have hrd:∀ w',Fr (fun _=>False) w w'→Calls Tryz.prog 125 #[(q.aj nm).ref xo xc last,.agg #[.int .i64 k,.int .u64 0,.string ⟨#[]⟩,.int .i64 0,.int .i64 0]] w' fun e w''=>∃ (p' l':Int) (n' f':ByteArray) (a' y':Int) (v:Nat) (sx:Option Addr) (sn sc:Nat),e = .returned (.tuple #[aV xo q.all.length xc p' l' n' f' a' y',.int .u64 (v:Nat),.slice sx sn sc])∧(∃ last':Nat,aV xo q.all.length xc p' l' n' f' a' y'=((q.aj nm).go k 0).1.ref xo xc last'∧v=((q.aj nm).go k 0).2.1∧(((q.aj nm).go k 0).1.f=none→last'=((q.aj nm).go k 0).1.part))∧Fr (fun _=>False) w' w'':=fun w' hf=>by
  refine(nY (q.aj nm) ⟨k,0,ByteArray.empty,0,0⟩ xo xc last w' (Q.gW hq nm) (by rw[Q.dT];exact hx.fr hf (fun _ _ _ _ _ h=>h)) (by rw[Q.dT];exact hlc) (by rw[Q.dT];exact hl) (by rcases hk with rfl|rfl|rfl <;> decide) (fun h=>by rcases hk with rfl|rfl|rfl <;> simp at h) (by show(0:Int)<9223372036854775808;decide) (by rw[Q.gN,Q.rn];exact hla)).mono ?_
  rintro e w'' ⟨last',v,rfl,hs,_,hl',hf'⟩
  obtain⟨sx,sc,rfl⟩:=hs.form
  have e3:((q.aj nm).go k 0).1.ref xo xc last'=aV xo q.all.length xc (((q.aj nm).go k 0).1.at_:Nat) (last':Nat) ((q.aj nm).go k 0).1.nm (dn ((q.aj nm).go k 0).1.f).1 ((dn ((q.aj nm).go k 0).1.f).2.1:Nat) ((dn ((q.aj nm).go k 0).1.f).2.2:Nat):=by
   unfold Q.ref;rw[hall]
  refine⟨_,_,_,_,_,_,_,sx,((q.aj nm).go k 0).2.2.length,sc,?_,⟨last',e3.symm,rfl,hl'⟩,hf'⟩
  rw[← e3]
  rfl
 have fin:∀ (e:Ending) (w':World),(∃ (p' l':Int) (n' f':ByteArray) (a' y':Int) (v:Nat),e = .returned (.tuple #[aV xo q.all.length xc p' l' n' f' a' y',.int .u64 (v:Nat)])∧(∃ last':Nat,aV xo q.all.length xc p' l' n' f' a' y'=((q.aj nm).go k 0).1.ref xo xc last'∧v=((q.aj nm).go k 0).2.1∧(((q.aj nm).go k 0).1.f=none→last'=((q.aj nm).go k 0).1.part))∧Fr (fun _=>False) w w')→∃ last':Nat,e = .returned (.tuple #[((q.aj nm).go k 0).1.ref xo xc last',.int .u64 (((q.aj nm).go k 0).2.1:Nat)])∧(((q.aj nm).go k 0).1.f=none→last'=((q.aj nm).go k 0).1.part)∧Fr (fun _=>False) w w':=by
  rintro e w' ⟨p',l',n',f',a',y',v,rfl,⟨last',h1,rfl,h2⟩,hf⟩
  exact⟨last',by rw[h1],h2,hf⟩
 by_cases hf:q.f=none
 ·have e1:(q.aj nm).ref xo xc last=aV xo q.all.length xc (q.at_:Nat) (last:Nat) nm (dn q.f).1 ((dn q.f).2.1:Nat) 0:=by
   unfold Q.aj;rw[if_pos hf];unfold Q.named Q.ref Q.at_;rw[hf];rfl
  have e2:q.ref xo xc last=aV xo q.all.length xc (q.at_:Nat) (last:Nat) q.nm (dn q.f).1 ((dn q.f).2.1:Nat) 0:=by
   unfold Q.ref;rw[hf];rfl
  rw[e1] at hrd
  rw[e2]
  exact(vV xo q.all.length xc _ _ _ k q.nm _ nm w (fun p' l' n' f' a' y' v _=>∃ last':Nat,aV xo q.all.length xc p' l' n' f' a' y'=((q.aj nm).go k 0).1.ref xo xc last'∧v=((q.aj nm).go k 0).2.1∧(((q.aj nm).go k 0).1.f=none→last'=((q.aj nm).go k 0).1.part)) hrd (fun _ _ _ _ _ _ _ _ _ h _=>h)).mono fin
 ·have e1:q.aj nm=q:=by unfold Q.aj;rw[if_neg hf]
  have hy:((dn q.f).2.2:Int)≠0:=fun e=>hf ((jf hq).1 (by omega))
  have hrd':=hrd
  rw[show(q.aj nm).ref xo xc last=q.ref xo xc last by rw[e1]] at hrd'
  exact(sC xo q.all.length xc _ _ _ _ k q.nm _ nm w hy (fun p' l' n' f' a' y' v _=>∃ last':Nat,aV xo q.all.length xc p' l' n' f' a' y'=((q.aj nm).go k 0).1.ref xo xc last'∧v=((q.aj nm).go k 0).2.1∧(((q.aj nm).go k 0).1.f=none→last'=((q.aj nm).go k 0).1.part)) hrd' (fun _ _ _ _ _ _ _ _ _ h _=>h)).mono fin
end Go.Proofs.YtdcopmkgmbiikaaGreatDoor
namespace Go.Proofs.YtdcopmkgmbiikaaGreatDoor
open Go.RowKit
end Go.Proofs.YtdcopmkgmbiikaaGreatDoor
namespace Go.Proofs.YtdcopmkgmbiikaaGreatDoor
open Go.RowKit
def Q.many (q:Q) (nm:ByteArray) (least most:Int):Q × List Nat:=(((q.aj nm).go 6 most).1.ah (if (((q.aj nm).go 6 most).2.2.length:Int)<least then 4 else 0),((q.aj nm).go 6 most).2.2)
theorem p6 (xo:Option Addr) (len xc:Nat) (place last fa:Int) (nm0 fw:ByteArray) (w:World) (R:Value)
  (hend:∀ w',Fr (fun _=>False) w w'→Calls Tryz.prog 106 #[aV xo len xc place last bk fw fa 0] w' fun e w''=>e = .returned R∧Fr (fun _=>False) w' w'') (hR:∃ a b c,R = .agg #[.string a,.int .i64 b,.int .i64 c]) :
  Calls Tryz.prog 66 #[aV xo len xc place last nm0 fw fa 0] w fun e w'=>e = .returned R∧Fr (fun _=>False) w w':=by
 have hd:((0:Int) == 0)=true:=rfl
 obtain⟨a,b,c,rfl⟩:=hR
 have HG:=ae (fun w'=>eX xo len xc place last fa 0 nm0 fw w')
 have HR:=ae hend
 clear hend
 unfold aV at *
 go_enter Tryz.func66,Tryz.ntmps66
 go_wp2_with fail
 refine((aa HG) _).mono ?_
 rintro e w1 ⟨rfl,rfl⟩
 rw[hd]
 go_wp2_with fail
 refine((aa HR) _ (aI _ _ _ _)).mono ?_
 rintro e w5 ⟨rfl,hf5⟩
 have hs3:=(vI w (.cells #[.slice xo len xc,.int .i64 place,.int .i64 last,.string bk,.string fw,.int .i64 fa,.int .i64 0] 120) (.cells #[.string ⟨#[]⟩,.int .i64 0,.int .i64 0] 55) (.cells #[.slice xo len xc,.int .i64 place,.int .i64 last,.string nm0,.string fw,.int .i64 fa,.int .i64 0] 120))
 have hb1:=(hf5.block (w.heap.size+1) (Nat.lt_of_lt_of_eq (by omega:w.heap.size+1<w.heap.size+3) hs3.2.2.symm) (fun h=>h)).trans hs3.2.1
 have o0:w5.cell? ⟨w.heap.size+1,0,none⟩=some (.string ⟨#[]⟩):=by simp[World.cell?,hb1]
 have o1:w5.cell? ⟨w.heap.size+1,1,none⟩=some (.int .i64 0):=by simp[World.cell?,hb1]
 have o2:w5.cell? ⟨w.heap.size+1,2,none⟩=some (.int .i64 0):=by simp[World.cell?,hb1]
 have oz:∀ i,w5.frozen? ⟨w.heap.size+1,i,none⟩=false:=fun i=>by simp[World.frozen?,hb1]
 have hlo:=ab o0
 have H5:=ae ((aI _ _ _ _).trans hf5 (fun _ _ h=>h))
 clear hf5 hs3 hb1
 go_wp2_with fail
 refine bodyPost_ret (v:=.agg #[.string a,.int .i64 b,.int .i64 c]) (by simp[results,Tryz.results66,go_sem,o0,o1,o2]) rfl ⟨rfl,?_⟩
 exact(((aa H5).setCell (.inr (Nat.le_succ _)) _).setCell (.inr (Nat.le_succ _)) _).setCell (.inr (Nat.le_succ _)) _
theorem od (xo:Option Addr) (len xc:Nat) (place last fa fy:Int) (nm0 fw:ByteArray) (w:World) (hy:fy≠0) (R:Value)
  (hend:∀ w',Fr (fun _=>False) w w'→Calls Tryz.prog 106 #[aV xo len xc place last nm0 fw fa fy] w' fun e w''=>e = .returned R∧Fr (fun _=>False) w' w'') (hR:∃ a b c,R = .agg #[.string a,.int .i64 b,.int .i64 c]) :
  Calls Tryz.prog 66 #[aV xo len xc place last nm0 fw fa fy] w fun e w'=>e = .returned R∧Fr (fun _=>False) w w':=by
 have hd:(fy == 0)=false:=by simp[hy]
 obtain⟨a,b,c,rfl⟩:=hR
 have HG:=ae (fun w'=>eX xo len xc place last fa fy nm0 fw w')
 have HR:=ae hend
 clear hend
 unfold aV at *
 go_enter Tryz.func66,Tryz.ntmps66
 go_wp2_with fail
 refine((aa HG) _).mono ?_
 rintro e w1 ⟨rfl,rfl⟩
 rw[hd]
 go_wp2_with fail
 refine((aa HR) _ (aI _ _ _ _)).mono ?_
 rintro e w5 ⟨rfl,hf5⟩
 have hs3:=(vI w (.cells #[.slice xo len xc,.int .i64 place,.int .i64 last,.string nm0,.string fw,.int .i64 fa,.int .i64 fy] 120) (.cells #[.string ⟨#[]⟩,.int .i64 0,.int .i64 0] 55) (.cells #[.slice xo len xc,.int .i64 place,.int .i64 last,.string nm0,.string fw,.int .i64 fa,.int .i64 fy] 120))
 have hb1:=(hf5.block (w.heap.size+1) (Nat.lt_of_lt_of_eq (by omega:w.heap.size+1<w.heap.size+3) hs3.2.2.symm) (fun h=>h)).trans hs3.2.1
 have o0:w5.cell? ⟨w.heap.size+1,0,none⟩=some (.string ⟨#[]⟩):=by simp[World.cell?,hb1]
 have o1:w5.cell? ⟨w.heap.size+1,1,none⟩=some (.int .i64 0):=by simp[World.cell?,hb1]
 have o2:w5.cell? ⟨w.heap.size+1,2,none⟩=some (.int .i64 0):=by simp[World.cell?,hb1]
 have oz:∀ i,w5.frozen? ⟨w.heap.size+1,i,none⟩=false:=fun i=>by simp[World.frozen?,hb1]
 have hlo:=ab o0
 have H5:=ae ((aI _ _ _ _).trans hf5 (fun _ _ h=>h))
 clear hf5 hs3 hb1
 go_wp2_with fail
 refine bodyPost_ret (v:=.agg #[.string a,.int .i64 b,.int .i64 c]) (by simp[results,Tryz.results66,go_sem,o0,o1,o2]) rfl ⟨rfl,?_⟩
 exact(((aa H5).setCell (.inr (Nat.le_succ _)) _).setCell (.inr (Nat.le_succ _)) _).setCell (.inr (Nat.le_succ _)) _
theorem rV (q:Q) (xo:Option Addr) (xc last:Nat) (w:World) (hq:q.ok) :
  Calls Tryz.prog 66 #[q.ref xo xc last] w fun e w'=>e = .returned (.agg #[.string (q.aj bk).ended.1,.int .i64 ((q.aj bk).ended.2.1:Nat),.int .i64 ((q.aj bk).ended.2.2:Nat)])∧Fr (fun _=>False) w w':=by
 have he:∀ w',Fr (fun _=>False) w w'→Calls Tryz.prog 106 #[(q.aj bk).ref xo xc last] w' fun e w''=>e = .returned (.agg #[.string (q.aj bk).ended.1,.int .i64 ((q.aj bk).ended.2.1:Nat),.int .i64 ((q.aj bk).ended.2.2:Nat)])∧Fr (fun _=>False) w' w'':=fun w' _=>vR (q.aj bk) xo xc last w' (Q.gW hq bk)
 by_cases hf:q.f=none
 ·have e1:(q.aj bk).ref xo xc last=aV xo q.all.length xc (q.at_:Nat) (last:Nat) bk (dn q.f).1 ((dn q.f).2.1:Nat) 0:=by
   unfold Q.aj;rw[if_pos hf];unfold Q.named Q.ref Q.at_;rw[hf];rfl
  have e2:q.ref xo xc last=aV xo q.all.length xc (q.at_:Nat) (last:Nat) q.nm (dn q.f).1 ((dn q.f).2.1:Nat) 0:=by
   unfold Q.ref;rw[hf];rfl
  rw[e1] at he
  rw[e2]
  exact p6 xo q.all.length xc _ _ _ q.nm _ w _ he ⟨_,_,_,rfl⟩
 ·have e1:q.aj bk=q:=by unfold Q.aj;rw[if_neg hf]
  have hy:((dn q.f).2.2:Int)≠0:=fun e=>hf ((jf hq).1 (by omega))
  rw[show(q.aj bk).ref xo xc last=q.ref xo xc last by rw[e1]] at he
  exact od xo q.all.length xc _ _ _ _ q.nm _ w hy _ he ⟨_,_,_,rfl⟩
theorem xn (w:World) (a b:Obj):((w.alloc a).alloc b).heap[w.heap.size]?=some a∧((w.alloc a).alloc b).heap[w.heap.size+1]?=some b∧((w.alloc a).alloc b).heap.size=w.heap.size+2:=by
 have s1:(w.alloc a).heap.size=w.heap.size+1:=by simp
 refine⟨?_,?_,by simp⟩
 ·rw[Below.heap_alloc _ _ _ (by omega)]
  exact heap_alloc_new w a
 ·rw[← s1]
  exact heap_alloc_new _ b
def Q.begun (l:List Nat) (form:Nat):Q:=((Q.mk ByteArray.empty l 0 0 none).aj cC |>.go 1 0).1.ah (if ((Q.mk ByteArray.empty l 0 0 none).aj cC |>.go 1 0).2.1=form then 0 else 5)
theorem ts (l:List Nat) (form:Nat) (xo:Option Addr) (xc:Nat) (w:World) (hx:Src w (.slice xo l.length xc) l) (hlc:l.length≤xc) (hl:l.length≤16777216) :
  Calls Tryz.prog 57 #[.slice xo l.length xc,.int .i64 (form:Nat)] w fun e w'=>∃ last',e = .returned ((Q.begun l form).ref xo xc last')∧((Q.begun l form).f=none→last'=(Q.begun l form).part)∧Fr (fun _=>False) w w':=by
 have hq0:(Q.mk ByteArray.empty l 0 0 none).ok:=⟨Nat.zero_le _,Nat.zero_le _,fun y hy=>by cases hy⟩
 obtain⟨r,hr⟩:∃ r,r=((Q.mk ByteArray.empty l 0 0 none).aj cC).go 1 0:=⟨_,rfl⟩
 have hbg:Q.begun l form=r.1.ah (if r.2.1=form then 0 else 5):=by rw[hr];rfl
 have hall:r.1.all=l:=by rw[hr,Q.go_all,Q.dT]
 have hrok:r.1.ok:=by rw[hr];exact Q.go_ok (Q.gW hq0 _) _ _
 have hrv:r.2.1<256:=by rw[hr];exact Q.go_lt _ 1 0
 have HN:Hid (∀ w',Fr (fun _=>False) w w'→Calls Tryz.prog 98 #[aV xo l.length xc 0 0 ⟨#[]⟩ ⟨#[]⟩ 0 0,.string cC,.int .i64 1] w' fun e w''=>∃ last':Nat,e = .returned (.tuple #[aV xo l.length xc (r.1.at_:Nat) (last':Nat) r.1.nm (dn r.1.f).1 ((dn r.1.f).2.1:Nat) ((dn r.1.f).2.2:Nat),.int .u64 (r.2.1:Nat)])∧(r.1.f=none→last'=r.1.part)∧Fr (fun _=>False) w' w''):=fun w' hf=>by
  refine(yd (Q.mk ByteArray.empty l 0 0 none) cC 1 xo xc 0 w' hq0 (hx.fr hf (fun _ _ _ _ _ h=>h)) hlc hl (.inl rfl) (fun _=>rfl)).mono ?_
  rw[← hr]
  rintro e w'' ⟨last',rfl,h1,h2⟩
  refine⟨last',?_,h1,h2⟩
  unfold Q.ref
  rw[hall]
 have HB:Hid (∀ w' (last':Nat),(r.1.f=none→last'=r.1.part)→Calls Tryz.prog 99 #[aV xo l.length xc (r.1.at_:Nat) (last':Nat) r.1.nm (dn r.1.f).1 ((dn r.1.f).2.1:Nat) ((dn r.1.f).2.2:Nat),.bool ((r.2.1:Int) != (form:Int)),.int .i64 5] w' fun e w''=>∃ last2:Nat,e = .returned ((Q.begun l form).ref xo xc last2)∧((Q.begun l form).f=none→last2=(Q.begun l form).part)∧Fr (fun _=>False) w' w''):=fun w' last' hla=>by
  have hg:=pX r.1 xo xc last' ((r.2.1:Int) != (form:Int)) 5 w' hrok (by decide) hla
  have e1:r.1.ah (if ((r.2.1:Int) != (form:Int))=true then 5 else 0)=Q.begun l form:=by
   rw[hbg]
   by_cases h:r.2.1=form
   ·simp[h]
   ·have:((r.2.1:Int) != (form:Int))=true:=by simp;omega
    rw[this,if_neg h]
    rfl
  rw[e1] at hg
  have e2:r.1.ref xo xc last'=aV xo l.length xc (r.1.at_:Nat) (last':Nat) r.1.nm (dn r.1.f).1 ((dn r.1.f).2.1:Nat) ((dn r.1.f).2.2:Nat):=by unfold Q.ref;rw[hall]
  rw[e2] at hg
  exact hg
 clear hr hbg hall hrok hx
 unfold aV at *
 go_enter Tryz.func57,Tryz.ntmps57
 go_wp2_with fail
 refine((aa HN) _ (aY _ _ _)).mono ?_
 rintro e w5 ⟨last',rfl,hla,hf5⟩
 have hs2:=xn w (.cells #[.slice none 0 0,.int .i64 0,.int .i64 0,.string ⟨#[]⟩,.string ⟨#[]⟩,.int .i64 0,.int .i64 0] 120) (.cells #[.slice xo l.length xc,.int .i64 0,.int .i64 0,.string ⟨#[]⟩,.string ⟨#[]⟩,.int .i64 0,.int .i64 0] 120)
 have hb0:=(hf5.block w.heap.size (by rw[hs2.2.2];omega) (fun h=>h)).trans hs2.1
 have hb1:=(hf5.block (w.heap.size+1) (by rw[hs2.2.2];omega) (fun h=>h)).trans hs2.2.1
 have r0:w5.cell? ⟨w.heap.size+1,0,none⟩=some (.slice xo l.length xc):=by simp[World.cell?,hb1]
 have r1:w5.cell? ⟨w.heap.size+1,1,none⟩=some (.int .i64 0):=by simp[World.cell?,hb1]
 have r2:w5.cell? ⟨w.heap.size+1,2,none⟩=some (.int .i64 0):=by simp[World.cell?,hb1]
 have r3:w5.cell? ⟨w.heap.size+1,3,none⟩=some (.string ⟨#[]⟩):=by simp[World.cell?,hb1]
 have r4:w5.cell? ⟨w.heap.size+1,4,none⟩=some (.string ⟨#[]⟩):=by simp[World.cell?,hb1]
 have r5:w5.cell? ⟨w.heap.size+1,5,none⟩=some (.int .i64 0):=by simp[World.cell?,hb1]
 have r6:w5.cell? ⟨w.heap.size+1,6,none⟩=some (.int .i64 0):=by simp[World.cell?,hb1]
 have rz:∀ i,w5.frozen? ⟨w.heap.size+1,i,none⟩=false:=fun i=>by simp[World.frozen?,hb1]
 have hlr:=ab r0
 have H5:=ae (And.intro hla (And.intro ((aY _ _ _).trans hf5 (fun _ _ h=>h)) hb0))
 clear hla hf5 hs2 hb0 hb1
 go_wp2_with fail
 obtain⟨W6,hW6⟩:∃ W6,((((((w5.setCell ⟨w.heap.size+1,0,none⟩ (.slice xo l.length xc)).setCell ⟨w.heap.size+1,1,none⟩ (.int .i64 (r.1.at_:Nat))).setCell ⟨w.heap.size+1,2,none⟩ (.int .i64 (last':Nat))).setCell ⟨w.heap.size+1,3,none⟩ (.string r.1.nm)).setCell ⟨w.heap.size+1,4,none⟩ (.string (dn r.1.f).1)).setCell ⟨w.heap.size+1,5,none⟩ (.int .i64 ((dn r.1.f).2.1:Nat))).setCell ⟨w.heap.size+1,6,none⟩ (.int .i64 ((dn r.1.f).2.2:Nat))=W6:=⟨_,rfl⟩
 have hb6:W6.heap[w.heap.size]?=some (.cells #[.slice none 0 0,.int .i64 0,.int .i64 0,.string ⟨#[]⟩,.string ⟨#[]⟩,.int .i64 0,.int .i64 0] 120):=by
  rw[← hW6,Below.heap_setCell _ _ _ _ (by show w.heap.size≠w.heap.size+1;omega),Below.heap_setCell _ _ _ _ (by show w.heap.size≠w.heap.size+1;omega),Below.heap_setCell _ _ _ _ (by show w.heap.size≠w.heap.size+1;omega),Below.heap_setCell _ _ _ _ (by show w.heap.size≠w.heap.size+1;omega),Below.heap_setCell _ _ _ _ (by show w.heap.size≠w.heap.size+1;omega),Below.heap_setCell _ _ _ _ (by show w.heap.size≠w.heap.size+1;omega),Below.heap_setCell _ _ _ _ (by show w.heap.size≠w.heap.size+1;omega)]
  exact(aa H5).2.2
 have hf06:Fr (fun _=>False) w W6:=by rw[← hW6];exact((((((((aa H5).2.1).setCell (.inr (Nat.le_succ _)) _).setCell (.inr (Nat.le_succ _)) _).setCell (.inr (Nat.le_succ _)) _).setCell (.inr (Nat.le_succ _)) _).setCell (.inr (Nat.le_succ _)) _).setCell (.inr (Nat.le_succ _)) _).setCell (.inr (Nat.le_succ _)) _
 rw[hW6]
 refine((aa HB) W6 last' (aa H5).1).mono ?_
 rintro e w7 ⟨last2,rfl,h5,hf7⟩
 have hl6:w.heap.size<W6.heap.size:=by
  rcases Nat.lt_or_ge w.heap.size W6.heap.size with hx|hx
  ·exact hx
  ·rw[Array.getElem?_eq_none hx] at hb6;cases hb6
 have hb7:=(hf7.block w.heap.size hl6 (fun h=>h)).trans hb6
 have z0:w7.cell? ⟨w.heap.size,0,none⟩=some (.slice none 0 0):=by simp[World.cell?,hb7]
 have z1:w7.cell? ⟨w.heap.size,1,none⟩=some (.int .i64 0):=by simp[World.cell?,hb7]
 have z2:w7.cell? ⟨w.heap.size,2,none⟩=some (.int .i64 0):=by simp[World.cell?,hb7]
 have z3:w7.cell? ⟨w.heap.size,3,none⟩=some (.string ⟨#[]⟩):=by simp[World.cell?,hb7]
 have z4:w7.cell? ⟨w.heap.size,4,none⟩=some (.string ⟨#[]⟩):=by simp[World.cell?,hb7]
 have z5:w7.cell? ⟨w.heap.size,5,none⟩=some (.int .i64 0):=by simp[World.cell?,hb7]
 have z6:w7.cell? ⟨w.heap.size,6,none⟩=some (.int .i64 0):=by simp[World.cell?,hb7]
 have zz:∀ i,w7.frozen? ⟨w.heap.size,i,none⟩=false:=fun i=>by simp[World.frozen?,hb7]
 have hlz:=ab z0
 have H7:=ae (And.intro h5 (hf06.trans hf7 (fun _ _ h=>h)))
 clear h5 hf7 hf06 hb6 hb7 hl6 hW6 r0 r1 r2 r3 r4 r5 r6 rz hlr
 have eref:∀ n:Nat,(Q.begun l form).ref xo xc n = .agg #[.slice xo (Q.begun l form).all.length xc,.int .i64 ((Q.begun l form).at_:Nat),.int .i64 (n:Nat),.string (Q.begun l form).nm,.string (dn (Q.begun l form).f).1,.int .i64 ((dn (Q.begun l form).f).2.1:Nat),.int .i64 ((dn (Q.begun l form).f).2.2:Nat)]:=fun _=>rfl
 have HE:=ae eref
 rw[eref]
 clear eref
 go_wp2_with fail
 refine bodyPost_ret (v:=(Q.begun l form).ref xo xc last2) (by rw[aa HE];simp[results,Tryz.results57,go_sem,z0,z1,z2,z3,z4,z5,z6]) rfl ?_
 exact⟨last2,rfl,(aa H7).1,((((((((aa H7).2).setCell (.inr (Nat.le_refl _)) _).setCell (.inr (Nat.le_refl _)) _).setCell (.inr (Nat.le_refl _)) _).setCell (.inr (Nat.le_refl _)) _).setCell (.inr (Nat.le_refl _)) _).setCell (.inr (Nat.le_refl _)) _).setCell (.inr (Nat.le_refl _)) _⟩
def Q.rv (q:Q) (xo:Option Addr) (len xc last:Nat):Array Value:=#[.slice xo len xc,.int .i64 (q.at_:Nat),.int .i64 (last:Nat),.string q.nm,.string (dn q.f).1,.int .i64 ((dn q.f).2.1:Nat),.int .i64 ((dn q.f).2.2:Nat)]
theorem Q.jX {q:Q} {len:Nat} (h:q.all.length=len) (xo:Option Addr) (xc last:Nat):q.ref xo xc last = .agg (q.rv xo len xc last):=by unfold Q.ref Q.rv aV;rw[h]
def Q.cN (q:Q):Q × Nat × List Nat:=((((q.aj cB).go 4 0).1.many dp 1 32).1,((q.aj cB).go 4 0).2.1,(((q.aj cB).go 4 0).1.many dp 1 32).2)
theorem CR (w:World) (a b c d:Obj):Fr (fun _=>False) w ((((w.alloc a).alloc b).alloc c).alloc d):=((((Fr.refl _ _).alloc _).alloc _).alloc _).alloc _
theorem C6 (w:World) (a b c d:Obj):((((w.alloc a).alloc b).alloc c).alloc d).heap[w.heap.size]?=some a∧((((w.alloc a).alloc b).alloc c).alloc d).heap[w.heap.size+1]?=some b∧((((w.alloc a).alloc b).alloc c).alloc d).heap[w.heap.size+1+1]?=some c∧((((w.alloc a).alloc b).alloc c).alloc d).heap[w.heap.size+1+1+1]?=some d∧((((w.alloc a).alloc b).alloc c).alloc d).heap.size=w.heap.size+4:=by
 have h3:=vI w a b c
 have s2:((w.alloc a).alloc b).heap.size=w.heap.size+1+1:=by simp
 have s3:(((w.alloc a).alloc b).alloc c).heap.size=w.heap.size+1+1+1:=by simp
 refine⟨?_,?_,?_,?_,by simp⟩
 ·rw[Below.heap_alloc _ _ _ (by omega)];exact h3.1
 ·rw[Below.heap_alloc _ _ _ (by omega)];exact h3.2.1
 ·rw[Below.heap_alloc _ _ _ (by omega),← s2]
  exact heap_alloc_new _ c
 ·rw[← s3]
  exact heap_alloc_new _ d
end Go.Proofs.YtdcopmkgmbiikaaGreatDoor
