import Derived.Test.YtdcopmkgmbiikaaGreatDoorProg
import Derived.WalkKit
import Derived.Deep.AppendLies
import Derived.Deep.RegionLaw
namespace Go.Proofs.YtdcopmkgmbiikaaGreatDoor
open Go.RowKit
theorem ae {p:Prop} (h:p):Hid p:=h
theorem aa {p:Prop} (h:Hid p):p:=h
def B (c:Nat):Value:=.int .u8 ((c % 256:Nat):Int)
def be (size v:Nat):List Nat:=(List.range size).map fun i=>v / 256 ^ (size - 1 - i)
def cellsOf (l:List Nat):List Value:=l.map B
structure Fr (S:Nat→Prop) (w w':World):Prop where
 os:w'.os=w.os
 tape:w'.tape=w.tape
 output:w'.output=w.output
 size:w.heap.size≤w'.heap.size
 block:∀ k,k<w.heap.size→¬ S k→w'.heap[k]?=w.heap[k]?
theorem Fr.refl (S:Nat→Prop) (w:World):Fr S w w:=⟨rfl,rfl,rfl,Nat.le_refl _,fun _ _ _=>rfl⟩
theorem Fr.trans {S T:Nat→Prop} {a b c:World} (h:Fr S a b) (k:Fr T b c) (hT:∀ i,i<a.heap.size→T i→S i):Fr S a c:=
 ⟨k.os.trans h.os,k.tape.trans h.tape,k.output.trans h.output,Nat.le_trans h.size k.size,fun i hi hs =>
  (k.block i (Nat.lt_of_lt_of_le hi h.size) (fun ht=>hs (hT i hi ht))).trans (h.block i hi hs)⟩
theorem Fr.mono {S T:Nat→Prop} {a b:World} (h:Fr S a b) (hT:∀ i,i<a.heap.size→S i→T i):Fr T a b:=
 ⟨h.os,h.tape,h.output,h.size,fun i hi hs=>h.block i hi fun hx=>hs (hT i hi hx)⟩
theorem Fr.drew {S:Nat→Prop} {a w:World} (h:Fr S a w):Fr S a w.drew:=⟨h.os,h.tape,h.output,h.size,h.block⟩
theorem Fr.alloc {S:Nat→Prop} {a w:World} (h:Fr S a w) (o:Obj):Fr S a (w.alloc o):=
 ⟨h.os,h.tape,h.output,by simpa using Nat.le_succ_of_le h.size,fun k hk hs=>(Below.heap_alloc _ _ _ (Nat.lt_of_lt_of_le hk h.size)).trans (h.block k hk hs)⟩
theorem Fr.setCell {S:Nat→Prop} {a w:World} (h:Fr S a w) {p:Addr} (hp:S p.block∨a.heap.size≤p.block) (u:Value):Fr S a (w.setCell p u):=
 ⟨h.os,h.tape,h.output,by simpa[World.setCell] using h.size,fun k hk hs=>(Below.heap_setCell _ _ _ _ (fun e=>by
  rcases hp with hp|hp
  ·exact hs (e ▸ hp)
  ·omega)).trans (h.block k hk hs)⟩
theorem Fr.grown {S:Nat→Prop} {a w w':World} {row:Option Nat} (h:Fr S a w) (hg:w.grownBy w' row) (hr:∀ k,row=some k→S k∨a.heap.size≤k):Fr S a w':=
 ⟨hg.os.trans h.os,hg.tape.trans h.tape,hg.output.trans h.output,Nat.le_trans h.size hg.size,fun k hk hs =>
  (hg.block k (Nat.lt_of_lt_of_le hk h.size) (fun e=>by
   rcases hr k e.symm with hx|hx
   ·exact hs hx
   ·omega)).trans (h.block k hk hs)⟩
theorem Fr.cell {S:Nat→Prop} {w w':World} (h:Fr S w w') {p:Addr} (hp:p.block<w.heap.size) (hs:¬ S p.block):w'.cell? p=w.cell? p:=World.cell?_of_block (w:=w) (h.block p.block hp hs)
theorem Fr.frozen {S:Nat→Prop} {w w':World} (h:Fr S w w') {p:Addr} (hp:p.block<w.heap.size) (hs:¬ S p.block):w'.frozen? p=w.frozen? p:=World.frozen?_of_block (w:=w) (h.block p.block hp hs)
theorem ab {w:World} {p:Addr} {v:Value} (h:w.cell? p=some v):p.block<w.heap.size:=by
 rcases Nat.lt_or_ge p.block w.heap.size with h0|h0
 ·exact h0
 ·simp[World.cell?,Array.getElem?_eq_none h0] at h
structure ik (w w':World) (b o:Nat) (sv sv':Value) (l':List Nat):Prop where
 fr:Fr (fun k=>k=b∨sv.ownBlock=some k) w w'
 c2:w'.cell? ⟨b,o,none⟩=some sv'
 own:w'.ownsRow (b+1) 5 1 sv' l'.length (cellsOf l')
 cs:∀ i,i≠o→w'.cell? ⟨b,i,none⟩=w.cell? ⟨b,i,none⟩
 fz:∀ i,w'.frozen? ⟨b,i,none⟩=w.frozen? ⟨b,i,none⟩
 at_:sv'.ownBlock=sv.ownBlock∨∃ g,sv'.ownBlock=some g∧w.heap.size≤g
theorem ik.refl {w:World} {b o:Nat} {sv:Value} {l:List Nat} (h:w.cell? ⟨b,o,none⟩=some sv) (ho:w.ownsRow (b+1) 5 1 sv l.length (cellsOf l)):ik w w b o sv sv l:=
 ⟨Fr.refl _ _,h,ho,fun _ _=>rfl,fun _=>rfl,.inl rfl⟩
theorem ik.row {w w':World} {b o:Nat} {sv sv':Value} {l:List Nat} (h:ik w w' b o sv sv' l):∀ k,sv'.ownBlock=some k→(k=b∨sv.ownBlock=some k)∨w.heap.size≤k:=fun k hk=>by
 rcases h.at_ with e|⟨g,e,hg⟩
 ·exact .inl (.inr (e ▸ hk))
 ·rw[e] at hk;cases hk;exact .inr hg
theorem ik.step {w wr wa w1:World} {b o g n cap:Nat} {sv sv1:Value} {l1 l2:List Nat} {xs:List Value} (had:ik w wr b o sv sv1 l1) (ha:Fr (fun _=>False) wr wa) (hgrow:wa.grownBy w1 sv1.ownBlock)
  (hown:w1.ownsRow (b+1) 5 1 (.slice (some ⟨g,0,none⟩) n cap) n xs) (hxs:xs=cellsOf l2) (hat:sv1.ownBlock=some g∨wr.heap.size≤g) :
  ik w (w1.setCell ⟨b,o,none⟩ (.slice (some ⟨g,0,none⟩) n cap)) b o sv (.slice (some ⟨g,0,none⟩) n cap) l2:=by
 have hn:n=l2.length:=by have:=hown.1;rw[hxs] at this;simpa[cellsOf] using this.symm
 subst hxs
 have hb1:b<wr.heap.size:=ab had.c2
 have hne:some b≠sv1.ownBlock:=fun e=>by have:=had.own.lt b e.symm;omega
 have hba:b<wa.heap.size:=Nat.lt_of_lt_of_le hb1 ha.size
 have hcell:∀ i,w1.cell? ⟨b,i,none⟩=wr.cell? ⟨b,i,none⟩:=fun i=>(hgrow.cell_far ⟨b,i,none⟩ hba hne).trans (ha.cell hb1 (fun h=>h))
 have hfz:∀ i,w1.frozen? ⟨b,i,none⟩=wr.frozen? ⟨b,i,none⟩:=fun i=>(hgrow.frozen_far ⟨b,i,none⟩ hba hne).trans (ha.frozen hb1 (fun h=>h))
 refine⟨?_,?_,?_,?_,?_,?_⟩
 ·refine Fr.setCell (Fr.grown (had.fr.trans ha (fun _ _ h=>h.elim)) hgrow had.row) (.inl (.inl rfl)) _
 ·exact World.cell?_setCell_same _ _ _ ((hcell o).trans had.c2)
 ·rw[← hn];exact ownsRow_setCell_below hown (Nat.lt_succ_self b) _
 ·intro i hi
  rw[World.cell?_setCell_other _ _ _ _ (by intro h;injection h with _ h2 _;exact hi h2.symm),hcell,had.cs i hi]
 ·intro i;rw[World.frozen?_setCell,hfz,had.fz]
 ·rcases hat with e|hg
  ·rcases had.at_ with e2|⟨g2,e2,hg2⟩
   ·exact .inl (by rw[← e2,e];rfl)
   ·exact .inr ⟨g,rfl,by rw[e2] at e;cases e;exact hg2⟩
  ·exact .inr ⟨g,rfl,Nat.le_trans had.fr.size hg⟩
end Go.Proofs.YtdcopmkgmbiikaaGreatDoor
