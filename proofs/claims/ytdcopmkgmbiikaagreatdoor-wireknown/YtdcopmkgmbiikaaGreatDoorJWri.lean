import Derived.Test.YtdcopmkgmbiikaaGreatDoorJThr
namespace Go.Proofs.YtdcopmkgmbiikaaGreatDoor
open Go.RowKit
structure cL where
 nm:ByteArray
 l:List Nat
 f:Option (ByteArray × Nat × Addr)
structure Gl (w:World) (E:Nat→Addr):Prop where
 e1:w.cell? ⟨0,0,none⟩=some (.iface 339 (.pointer (some (E 1))))
 e2:w.cell? ⟨3,0,none⟩=some (.iface 339 (.pointer (some (E 2))))
 e3:w.cell? ⟨1,0,none⟩=some (.iface 339 (.pointer (some (E 3))))
theorem Gl.fr {w w':World} {E:Nat→Addr} {S:Nat→Prop} (h:Gl w E) (hf:Fr S w w') (hS:∀ k,S k→9≤k):Gl w' E:=by
 have key:∀ (n:Nat) (v:Value),n<9→w.cell? ⟨n,0,none⟩=some v→w'.cell? ⟨n,0,none⟩=some v:=fun n v hn hv =>
  (hf.cell (ab hv) (fun hs=>by have:=hS _ hs;simp at this;omega)).trans hv
 exact⟨key _ _ (by decide) h.e1,key _ _ (by decide) h.e2,key _ _ (by decide) h.e3⟩
structure W (w:World) (b:Nat) (F:Nat→Prop) (s:cL):Prop where
 lt:∀ k,F k→k<w.heap.size
 lo:∀ k,F k→9≤k
 fb:F b
 c0:w.cell? ⟨b,0,none⟩=some (.string s.nm)
 fz:∀ i,w.frozen? ⟨b,i,none⟩=false
 st:(s.f=none∧w.cell? ⟨b,1,none⟩=some (.pointer none)∧∃ sv,w.cell? ⟨b,2,none⟩=some sv∧w.ownsRow (b+1) 5 1 sv s.l.length (cellsOf s.l)∧∀ k,sv.ownBlock=some k→F k) ∨
  (∃ what place ea fb,s.f=some (what,place,ea)∧w.cell? ⟨b,1,none⟩=some (.pointer (some ⟨fb,0,none⟩))∧F fb∧w.heap[fb]?=some (aJ what place ea))
structure Ch (w w':World) (F F':Nat→Prop):Prop where
 fr:Fr F w w'
 new:∀ k,F' k→F k∨w.heap.size≤k
theorem av {w w':World} {base e size n:Nat} {v:Value} {xs:List Value} (h:w.ownsRow base e size v n xs) (hb:∀ g,v.ownBlock=some g→w'.heap[g]?=w.heap[g]?):w'.ownsRow base e size v n xs:=by
 refine⟨h.1,?_⟩
 rcases h.2 with h0|⟨g,cap,cur,e1,e2,e3,e4⟩
 ·exact .inl h0
 ·exact .inr ⟨g,cap,cur,e1,e2,(hb g (by rw[e1];rfl)).trans e3,e4⟩
theorem W.frame {w w':World} {b:Nat} {F S:Nat→Prop} {s:cL} (h:W w b F s) (hf:Fr S w w') (hS:∀ k,F k→¬ S k):W w' b F s:=by
 have hc:∀ i,w'.cell? ⟨b,i,none⟩=w.cell? ⟨b,i,none⟩:=fun i=>hf.cell (h.lt b h.fb) (hS b h.fb)
 refine⟨fun k hk=>Nat.lt_of_lt_of_le (h.lt k hk) hf.size,h.lo,h.fb,(hc 0).trans h.c0,fun i=>(hf.frozen (h.lt b h.fb) (hS b h.fb)).trans (h.fz i),?_⟩
 rcases h.st with ⟨h1,h2,sv,h3,h4,h5⟩|⟨what,place,ea,fb,h1,h2,h3,h4⟩
 ·exact .inl ⟨h1,(hc 1).trans h2,sv,(hc 2).trans h3,av h4 (fun g hg=>hf.block g (h.lt g (h5 g hg)) (hS g (h5 g hg))),h5⟩
 ·exact .inr ⟨what,place,ea,fb,h1,(hc 1).trans h2,h3,(hf.block fb (h.lt fb h3) (hS fb h3)).trans h4⟩
theorem Ch.refl (w:World) (F:Nat→Prop):Ch w w F F:=⟨Fr.refl _ _,fun _ h=>.inl h⟩
theorem Ch.trans {a b c:World} {F G H:Nat→Prop} (h:Ch a b F G) (k:Ch b c G H):Ch a c F H:=
 ⟨h.fr.trans k.fr (fun i hi hg=>(h.new i hg).resolve_right (by omega)),fun i hi=>(k.new i hi).elim (fun hg=>h.new i hg) (fun hx=>.inr (Nat.le_trans h.fr.size hx))⟩
theorem W.A1 {w wa w':World} {b:Nat} {F:Nat→Prop} {s:cL} {sv sv':Value} {x:List Nat} (h:W w b F s) (hn:s.f=none) (ha:Fr (fun _=>False) w wa) (hsv:w.cell? ⟨b,2,none⟩=some sv) (had:ik wa w' b 2 sv sv' (s.l++x)) :
  ∃ F',W w' b F' { s with l:=s.l++x } ∧ Ch w w' F F':=by
 rcases h.st with ⟨h1,h2,sv0,h3,h4,h5⟩|⟨what,place,ea,fb,h1,_⟩
 ·obtain rfl:sv0=sv:=by rw[h3] at hsv;exact Option.some.inj hsv
  have hb:=h.lt b h.fb
  have hsame:∀ i,wa.cell? ⟨b,i,none⟩=w.cell? ⟨b,i,none⟩:=fun i=>ha.cell hb (fun h=>h)
  refine⟨fun k=>F k∨sv'.ownBlock=some k,⟨?_,?_,.inl h.fb,?_,?_,.inl ⟨hn,?_,sv',had.c2,had.own,fun k hk=>.inr hk⟩⟩,?_,?_⟩
  ·intro k hk
   rcases hk with hk|hk
   ·exact Nat.lt_of_lt_of_le (h.lt k hk) (Nat.le_trans ha.size had.fr.size)
   ·exact(had.own.lt k hk).2
  ·intro k hk
   rcases hk with hk|hk
   ·exact h.lo k hk
   ·have h1:=(had.own.lt k hk).1
    have h2:=h.lo b h.fb
    omega
  ·exact(had.cs 0 (by decide)).trans ((hsame 0).trans h.c0)
  ·intro i;exact(had.fz i).trans ((ha.frozen hb (fun h=>h)).trans (h.fz i))
  ·exact(had.cs 1 (by decide)).trans ((hsame 1).trans h2)
  ·refine(ha.mono (T:=F) (fun _ _ h=>h.elim)).trans had.fr (fun i _ hi=>?_)
   rcases hi with rfl|hi
   ·exact h.fb
   ·exact h5 i hi
  ·intro k hk
   rcases hk with hk|hk
   ·exact .inl hk
   ·rcases had.at_ with e|⟨g,e,hg⟩
    ·exact .inl (h5 k (e ▸ hk))
    ·rw[e] at hk;cases hk;exact .inr (Nat.le_trans ha.size hg)
 ·rw[hn] at h1;cases h1
theorem W.oU {w wa w1:World} {b:Nat} {F:Nat→Prop} {s:cL} {fa ea:Addr} {place:Nat} (h:W w b F s) (hn:s.f=none) (ha:Fr (fun _=>False) w wa) (hb:sA wa w1 fa s.nm place ea) :
  ∃ F',W (w1.setCell ⟨b,1,none⟩ (.pointer (some fa))) b F' { s with f:=some (s.nm,place,ea) } ∧ Ch w (w1.setCell ⟨b,1,none⟩ (.pointer (some fa))) F F':=by
 rcases h.st with ⟨h1,h2,sv0,h3,h4,h5⟩|⟨what,place,ea,fb,h1,_⟩
 ·have hlt:=h.lt b h.fb
  have hw1:Fr (fun _=>False) w w1:=ha.trans hb.fr (fun _ _ h=>h)
  have hsame:∀ i,w1.cell? ⟨b,i,none⟩=w.cell? ⟨b,i,none⟩:=fun i=>hw1.cell hlt (fun h=>h)
  obtain⟨fb,fo,fs⟩:=fa
  obtain⟨rfl,rfl,hge⟩:=hb.yE
  have hge':w.heap.size≤fb:=Nat.le_trans ha.size hge
  have hfl:fb<w1.heap.size:=by
   rcases Nat.lt_or_ge fb w1.heap.size with hx|hx
   ·exact hx
   ·have:=hb.c;rw[Array.getElem?_eq_none hx] at this;cases this
  refine⟨fun k=>F k∨k=fb,⟨?_,?_,.inl h.fb,?_,?_,.inr ⟨s.nm,place,ea,fb,rfl,?_,.inr rfl,?_⟩⟩,?_,?_⟩
  ·intro k hk
   rw[World.size_setCell]
   rcases hk with hk|rfl
   ·exact Nat.lt_of_lt_of_le (h.lt k hk) hw1.size
   ·exact hfl
  ·intro k hk
   rcases hk with hk|rfl
   ·exact h.lo k hk
   ·have h2:=h.lo b h.fb
    omega
  ·rw[World.cell?_setCell_other _ _ _ _ (by intro h;injection h with _ h2 _;cases h2),hsame];exact h.c0
  ·intro i;rw[World.frozen?_setCell];exact(hw1.frozen hlt (fun h=>h)).trans (h.fz i)
  ·exact World.cell?_setCell_same _ _ _ ((hsame 1).trans h2)
  ·rw[Below.heap_setCell _ _ _ _ (by show fb≠b;omega)];exact hb.c
  ·exact(hw1.mono (T:=F) (fun _ _ h=>h.elim)).setCell (.inl h.fb) _
  ·intro k hk
   rcases hk with hk|rfl
   ·exact .inl hk
   ·exact .inr hge'
 ·rw[hn] at h1;cases h1
theorem W.uU {w w':World} {b:Nat} {F:Nat→Prop} {s:cL} (h:W w b F s) (ha:Fr (fun _=>False) w w'):∃ F',W w' b F' s∧Ch w w' F F':=
 ⟨F,h.frame ha (fun _ _ h=>h),ha.mono (fun _ _ h=>h.elim),fun _ hk=>.inl hk⟩
theorem iQ {w wb:World} {b Fc:Nat} {caps:Array Value} {F:Nat→Prop} {s:cL} (x:List Nat) (h:W w b F s) (hn:s.f=none) (hwb:Fr (fun _=>False) w wb) (he:∀ W,(callFunc Fc caps).run Tryz.prog W = .ok (.enter Fc caps) W)
  (hclo:∀ wk sv,Fr (fun _=>False) wb wk→wk.cell? ⟨b,2,none⟩=some sv→wk.frozen? ⟨b,2,none⟩=false→wk.ownsRow (b+1) 5 1 sv s.l.length (cellsOf s.l)→(∀ k,k=b∨sv.ownBlock=some k→F k) →
   Calls Tryz.prog Fc caps wk fun e w'=>e = .returned (.tuple #[])∧∃ sv',ik wk w' b 2 sv sv' (s.l++x)) :
  Calls Tryz.prog 182 #[.pointer (some ⟨b,0,none⟩),.func (.func Fc) #[] caps] wb fun e w'=>e = .returned (.tuple #[])∧∃ F',W w' b F' { s with l:=s.l++x } ∧ Ch w w' F F':=by
 have hB:=h.frame hwb (fun _ _ h=>h)
 rcases hB.st with ⟨h1,h2,sv,h3,h4,h5⟩|⟨what,place,ea,fb,h1,_⟩
 ·have hk:Fr (fun _=>False) wb (wb.alloc (.cells #[.pointer (some ⟨b,0,none⟩)] 271)):=(Fr.refl _ _).alloc _
  have hK:=hB.frame hk (fun _ _ h=>h)
  have hlt:=hB.lt b hB.fb
  refine(de b Fc caps (fun w'=>∃ F',W w' b F' { s with l:=s.l++x } ∧ Ch w w' F F') wb h2 he ?_)
  refine(hclo _ sv hk ((hk.cell hlt (fun h=>h)).trans h3) ((hk.frozen hlt (fun h=>h)).trans (hB.fz 2)) (av h4 (fun g hg=>hk.block g (hB.lt g (h5 g hg)) (fun h=>h))) (fun k hk=>hk.elim (fun e=>e ▸ hB.fb) (h5 k))).mono ?_
  rintro e w' ⟨rfl,sv',hA⟩
  exact⟨rfl,h.A1 hn (hwb.trans hk (fun _ _ h=>h)) ((hwb.cell (h.lt b h.fb) (fun h=>h)).symm.trans h3) hA⟩
 ·rw[hn] at h1;cases h1
theorem gX {w wb:World} {b Fc:Nat} {caps:Array Value} {F:Nat→Prop} {s:cL} (place:Nat) (ea:Addr) (h:W w b F s) (hn:s.f=none) (hwb:Fr (fun _=>False) w wb) (he:∀ W,(callFunc Fc caps).run Tryz.prog W = .ok (.enter Fc caps) W)
  (hclo:∀ wk,Fr (fun _=>False) wb wk→W wk b F s→Calls Tryz.prog Fc caps wk fun e w'=>∃ fa,e = .panicked [aG fa]∧sA wk w' fa s.nm place ea) :
  Calls Tryz.prog 182 #[.pointer (some ⟨b,0,none⟩),.func (.func Fc) #[] caps] wb fun e w'=>e = .returned (.tuple #[])∧∃ F',W w' b F' { s with f:=some (s.nm,place,ea) } ∧ Ch w w' F F':=by
 have hB:=h.frame hwb (fun _ _ h=>h)
 rcases hB.st with ⟨h1,h2,sv,h3,h4,h5⟩|⟨what,place,ea,fb,h1,_⟩
 ·have hk:Fr (fun _=>False) wb (wb.alloc (.cells #[.pointer (some ⟨b,0,none⟩)] 271)):=(Fr.refl _ _).alloc _
  have hK:=hB.frame hk (fun _ _ h=>h)
  have hlt:=hB.lt b hB.fb
  refine(cM b Fc caps (fun w' fa=>sA (wb.alloc (.cells #[.pointer (some ⟨b,0,none⟩)] 271)) w' fa s.nm place ea) wb h2 he (hclo _ hk hK) ?_).mono ?_
  ·intro w' fa hbad
   refine⟨?_,?_,?_⟩
   ·exact(hbad.fr.cell (by simp) (fun h=>h)).trans (by simp)
   ·exact(hbad.fr.cell (by simp;omega) (fun h=>h)).trans ((hk.cell hlt (fun h=>h)).trans h2)
   ·exact(hbad.fr.frozen (by simp;omega) (fun h=>h)).trans ((hk.frozen hlt (fun h=>h)).trans (hB.fz 1))
  ·rintro e w' ⟨rfl,w1,fa,hbad,rfl⟩
   exact⟨rfl,h.oU hn (hwb.trans hk (fun _ _ h=>h)) hbad⟩
 ·rw[hn] at h1;cases h1
theorem cc {w wb:World} {b:Nat} {f:Value} {F:Nat→Prop} {s:cL} (h:W w b F s) (hn:s.f≠none) (hwb:Fr (fun _=>False) w wb) :
  Calls Tryz.prog 182 #[.pointer (some ⟨b,0,none⟩),f] wb fun e w'=>e = .returned (.tuple #[])∧∃ F',W w' b F' s∧Ch w w' F F':=by
 have hB:=h.frame hwb (fun _ _ h=>h)
 rcases hB.st with ⟨h1,_⟩|⟨what,place,ea,fb,h1,h2,h3,h4⟩
 ·exact absurd h1 hn
 ·refine(bX b _ f wb h2).mono ?_
  rintro e w' ⟨rfl,rfl⟩
  exact⟨rfl,h.uU (hwb.alloc _)⟩
theorem aY (w:World) (a b:Obj):Fr (fun _=>False) w ((w.alloc a).alloc b):=((Fr.refl _ _).alloc _).alloc _
theorem aI (w:World) (a b c:Obj):Fr (fun _=>False) w (((w.alloc a).alloc b).alloc c):=(((Fr.refl _ _).alloc _).alloc _).alloc _
theorem zG (b v:Nat) (p0 p1:Addr) (sv:Value) (l:List Nat) (w:World) (hv:v<256) (hp0:w.cell? p0=some (.pointer (some ⟨b,0,none⟩))) (hp1:w.cell? p1=some (.int .u8 v))
  (h2:w.cell? ⟨b,2,none⟩=some sv) (f2:w.frozen? ⟨b,2,none⟩=false) (ho:w.ownsRow (b+1) 5 1 sv l.length (cellsOf l)) (hl:l.length+1≤140737488355328) :
  Calls Tryz.prog 202 #[.pointer (some p0),.pointer (some p1)] w fun e w'=>e = .returned (.tuple #[])∧∃ sv',ik w w' b 2 sv sv' (l++be 1 v):=by
 have HO:=ae ho
 clear ho
 go_enter Tryz.func202,Tryz.ntmps202
 go_wp2_with fail
 refine(fX b 1 v sv l _ (by decide) h2 f2 (aa HO) hl).mono ?_
 rintro e w' ⟨rfl,hA⟩
 go_wp2_with fail
 go_end0
 exact⟨rfl,hA⟩
theorem zi (b v:Nat) (F:Nat→Prop) (s:cL) (w:World) (hv:v<256) (h:W w b F s) (hl:s.l.length+1≤140737488355328) :
  Calls Tryz.prog 185 #[.pointer (some ⟨b,0,none⟩),.int .u8 v] w fun e w'=>e = .returned (.tuple #[])∧∃ F',W w' b F' (if s.f=none then { s with l:=s.l++be 1 v } else s)∧Ch w w' F F':=by
 have hb:=h.lt b h.fb
 have hmf:=mf
 by_cases hn:s.f=none
 ·have HN:=ae hn
  rw[if_pos hn]
  clear hn
  go_enter Tryz.func185,Tryz.ntmps185
  go_wp2_with fail
  refine(iQ (w:=w) (be 1 v) h (aa HN) (aY _ _ _) (enters Tryz.func202 (by kernel_rfl) (by kernel_rfl) _) (fun wk sv hk h2 f2 ho _=>zG b v _ _ sv s.l wk hv ((hk.cell (by simp <;> omega) (fun h=>h)).trans (by simp)) ((hk.cell (by simp) (fun h=>h)).trans (by simp)) h2 f2 ho hl)).mono ?_
  rintro e w' ⟨rfl,hr⟩
  go_wp2_with fail
  go_end0
  exact⟨rfl,hr⟩
 ·have HN:=ae hn
  rw[if_neg hn]
  clear hn
  go_enter Tryz.func185,Tryz.ntmps185
  go_wp2_with fail
  refine(cc (w:=w) h (aa HN) (aY _ _ _)).mono ?_
  rintro e w' ⟨rfl,hr⟩
  go_wp2_with fail
  go_end0
  exact⟨rfl,hr⟩
theorem yK (b v:Nat) (p0 p1:Addr) (sv:Value) (l:List Nat) (w:World) (hv:v<4294967296) (hp0:w.cell? p0=some (.pointer (some ⟨b,0,none⟩))) (hp1:w.cell? p1=some (.int .u32 v))
  (h2:w.cell? ⟨b,2,none⟩=some sv) (f2:w.frozen? ⟨b,2,none⟩=false) (ho:w.ownsRow (b+1) 5 1 sv l.length (cellsOf l)) (hl:l.length+4≤140737488355328) :
  Calls Tryz.prog 204 #[.pointer (some p0),.pointer (some p1)] w fun e w'=>e = .returned (.tuple #[])∧∃ sv',ik w w' b 2 sv sv' (l++be 4 v):=by
 have HO:=ae ho
 clear ho
 go_enter Tryz.func204,Tryz.ntmps204
 go_wp2_with fail
 refine(fX b 4 v sv l _ (by decide) h2 f2 (aa HO) hl).mono ?_
 rintro e w' ⟨rfl,hA⟩
 go_wp2_with fail
 go_end0
 exact⟨rfl,hA⟩
theorem xq (b v:Nat) (F:Nat→Prop) (s:cL) (w:World) (hv:v<4294967296) (h:W w b F s) (hl:s.l.length+4≤140737488355328) :
  Calls Tryz.prog 186 #[.pointer (some ⟨b,0,none⟩),.int .u32 v] w fun e w'=>e = .returned (.tuple #[])∧∃ F',W w' b F' (if s.f=none then { s with l:=s.l++be 4 v } else s)∧Ch w w' F F':=by
 have hb:=h.lt b h.fb
 have hmf:=mf
 by_cases hn:s.f=none
 ·have HN:=ae hn
  rw[if_pos hn]
  clear hn
  go_enter Tryz.func186,Tryz.ntmps186
  go_wp2_with fail
  refine(iQ (w:=w) (be 4 v) h (aa HN) (aY _ _ _) (enters Tryz.func204 (by kernel_rfl) (by kernel_rfl) _) (fun wk sv hk h2 f2 ho _=>yK b v _ _ sv s.l wk hv ((hk.cell (by simp <;> omega) (fun h=>h)).trans (by simp)) ((hk.cell (by simp) (fun h=>h)).trans (by simp)) h2 f2 ho hl)).mono ?_
  rintro e w' ⟨rfl,hr⟩
  go_wp2_with fail
  go_end0
  exact⟨rfl,hr⟩
 ·have HN:=ae hn
  rw[if_neg hn]
  clear hn
  go_enter Tryz.func186,Tryz.ntmps186
  go_wp2_with fail
  refine(cc (w:=w) h (aa HN) (aY _ _ _)).mono ?_
  rintro e w' ⟨rfl,hr⟩
  go_wp2_with fail
  go_end0
  exact⟨rfl,hr⟩
end Go.Proofs.YtdcopmkgmbiikaaGreatDoor
