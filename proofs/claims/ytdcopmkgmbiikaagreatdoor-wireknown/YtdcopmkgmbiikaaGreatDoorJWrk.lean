import Derived.Test.YtdcopmkgmbiikaaGreatDoorJWrj
import Derived.RegionDies
set_option maxRecDepth 100000
namespace Go.Proofs.YtdcopmkgmbiikaaGreatDoor
open Go.RowKit
def cL.bP (s:cL) (x:List Nat):cL:=if s.f=none then { s with l:=s.l++x } else s
def cL.fail (s:cL) (ea:Addr):cL:=if s.f=none then { s with f:=some (s.nm,s.l.length,ea) } else s
theorem W.sv {w:World} {b:Nat} {F:Nat→Prop} {s:cL} (h:W w b F s) (hn:s.f=none):∃ ao cap,w.cell? ⟨b,2,none⟩=some (.slice ao s.l.length cap):=by
 rcases h.st with ⟨h1,h2,sv,h3,h4,h5⟩|⟨what,place,ea,fb,h1,_⟩
 ·obtain⟨ao,cap,rfl⟩:=di h4
  exact⟨ao,cap,h3⟩
 ·rw[hn] at h1;cases h1
theorem Gl.aR {w w':World} {E:Nat→Addr} (h:Gl w E) (hf:Fr (fun _=>False) w w'):Gl w' E:=h.fr hf (fun _ h=>h.elim)
theorem lf (w:World) (v:Value) (t:TypeId) (o1 o2:Obj):(((w.alloc (.cells #[v] t)).alloc o1).alloc o2).cell? ⟨w.heap.size,0,none⟩=some v:=by
 rw[World.cell?_alloc_past _ _ _ (by simp <;> omega),World.cell?_alloc_past _ _ _ (by simp),World.cell?_alloc_at _ _ _ _ rfl];rfl
theorem mm (w:World) (v:Value) (t:TypeId) (o1 o2:Obj):(((w.alloc o1).alloc (.cells #[v] t)).alloc o2).cell? ⟨w.heap.size+1,0,none⟩=some v:=by
 rw[World.cell?_alloc_past _ _ _ (by simp <;> omega),World.cell?_alloc_at _ _ _ _ (by simp)];rfl
theorem jW (w:World) (v:Value) (t:TypeId) (o1 o2:Obj):(((w.alloc o1).alloc o2).alloc (.cells #[v] t)).cell? ⟨w.heap.size+1+1,0,none⟩=some v:=by
 rw[World.cell?_alloc_at _ _ _ _ (by simp)];rfl
theorem vK (b:Nat) (x:ByteArray) (most:Int) (F:Nat→Prop) (s:cL) (E:Nat→Addr) (w:World) (hg:Gl w E) (h:W w b F s) (hx:x.size<9223372036854775808) (hl:s.l.length+4+x.size≤140737488355328) :
  Calls Tryz.prog 188 #[.pointer (some ⟨b,0,none⟩),.string x,.int .i64 most] w fun e w'=>e = .returned (.tuple #[])∧∃ F',W w' b F' (if (x.size:Int)≤most∧x.size<4294967296 then s.bP (be 4 x.size++bytesOf x) else s.fail (E 2))∧Ch w w' F F':=by
 have hb:=h.lt b h.fb
 have hmf:=mf
 have HG:=ae hg
 clear hg
 have HX:=ae hx
 clear hx
 by_cases hn:s.f=none
 ·have HN:=ae hn
  by_cases hc:(x.size:Int)≤most∧x.size<4294967296
  ·rw[if_pos hc,cL.bP,if_pos hn]
   have HC:=ae hc
   clear hn hc
   go_enter Tryz.func188,Tryz.ntmps188
   go_wp2_with fail
   refine(iQ (w:=w) (be 4 x.size++bytesOf x) h (aa HN) (aI _ _ _ _) (enters Tryz.func207 (by kernel_rfl) (by kernel_rfl) _) (fun wk sv hk h2 f2 ho hF=>uZ b x most ⟨w.heap.size,0,none⟩ ⟨w.heap.size+1,0,none⟩ ⟨w.heap.size+1+1,0,none⟩ (E 2) sv s.l wk (aa HC).1 (aa HC).2 (((aa HG).aR ((aI _ _ _ _).trans hk (fun _ _ h=>h))).e2) ((hk.cell (by simp <;> omega) (fun h=>h)).trans (lf _ _ _ _ _)) ((hk.cell (by simp <;> omega) (fun h=>h)).trans (mm _ _ _ _ _)) ((hk.cell (by simp <;> omega) (fun h=>h)).trans (jW _ _ _ _ _)) (fun hk=>by have:=h.lt _ (hF _ hk);simp at this) (fun hk=>by have:=h.lt _ (hF _ hk);simp at this;omega) h2 f2 ho hl)).mono ?_
   rintro e w' ⟨rfl,hr⟩
   go_wp2_with fail
   go_end0
   exact⟨rfl,hr⟩
  ·rw[if_neg hc,cL.fail,if_pos hn]
   have HC:Hid (most<((x.size:Nat):Int)∨4294967295<x.size):=by simp only[Hid];omega
   clear hn hc
   go_enter Tryz.func188,Tryz.ntmps188
   go_wp2_with fail
   refine(gX (w:=w) s.l.length (E 2) h (aa HN) (aI _ _ _ _) (enters Tryz.func207 (by kernel_rfl) (by kernel_rfl) _) (fun wk hk hW=>by
    obtain⟨ao,cap,h2⟩:=hW.sv (aa HN)
    exact mu b x most ⟨w.heap.size,0,none⟩ ⟨w.heap.size+1,0,none⟩ ⟨w.heap.size+1+1,0,none⟩ (E 2) s.nm ao s.l.length cap wk (aa HC) (aa HX) (((aa HG).aR ((aI _ _ _ _).trans hk (fun _ _ h=>h))).e2) ((hk.cell (by simp <;> omega) (fun h=>h)).trans (lf _ _ _ _ _)) ((hk.cell (by simp <;> omega) (fun h=>h)).trans (mm _ _ _ _ _)) ((hk.cell (by simp <;> omega) (fun h=>h)).trans (jW _ _ _ _ _)) hW.c0 h2)).mono ?_
   rintro e w' ⟨rfl,hr⟩
   go_wp2_with fail
   go_end0
   exact⟨rfl,hr⟩
 ·have HN:=ae hn
  have e:(if (x.size:Int)≤most∧x.size<4294967296 then s.bP (be 4 x.size++bytesOf x) else s.fail (E 2))=s:=by simp[cL.bP,cL.fail,hn]
  rw[e]
  clear hn e
  go_enter Tryz.func188,Tryz.ntmps188
  go_wp2_with fail
  refine(cc (w:=w) h (aa HN) (aI _ _ _ _)).mono ?_
  rintro e w' ⟨rfl,hr⟩
  go_wp2_with fail
  go_end0
  exact⟨rfl,hr⟩
theorem sF (b:Nat) (x:Value) (l:List Nat) (most:Int) (F:Nat→Prop) (s:cL) (E:Nat→Addr) (w:World) (hg:Gl w E) (h:W w b F s) (hsrc:Src w x l) (nx:∀ g o m c,x = .slice (some ⟨g,o,none⟩) m c→¬ F g) (hx:l.length<9223372036854775808) (hl:s.l.length+4+l.length≤140737488355328) :
  Calls Tryz.prog 189 #[.pointer (some ⟨b,0,none⟩),x,.int .i64 most] w fun e w'=>e = .returned (.tuple #[])∧∃ F',W w' b F' (if (l.length:Int)≤most∧l.length<4294967296 then s.bP (be 4 l.length++l) else s.fail (E 2))∧Ch w w' F F':=by
 have hb:=h.lt b h.fb
 have hmf:=mf
 have HG:=ae hg
 clear hg
 have HX:=ae hx
 have HS:=ae hsrc
 have NX:=ae nx
 clear hx nx
 obtain⟨xo,xc,rfl⟩:=hsrc.form
 clear hsrc
 by_cases hn:s.f=none
 ·have HN:=ae hn
  by_cases hc:(l.length:Int)≤most∧l.length<4294967296
  ·rw[if_pos hc,cL.bP,if_pos hn]
   have HC:=ae hc
   clear hn hc
   go_enter Tryz.func189,Tryz.ntmps189
   go_wp2_with fail
   refine(iQ (w:=w) (be 4 l.length++l) h (aa HN) (aI _ _ _ _) (enters Tryz.func209 (by kernel_rfl) (by kernel_rfl) _) (fun wk sv hk h2 f2 ho hF=>sh b (.slice xo l.length xc) l most ⟨w.heap.size,0,none⟩ ⟨w.heap.size+1,0,none⟩ ⟨w.heap.size+1+1,0,none⟩ (E 2) sv s.l wk ((aa HS).fr ((aI _ _ _ _).trans hk (fun _ _ h=>h)) (fun _ _ _ _ _ h=>h)) (aa HC).1 (aa HC).2 (((aa HG).aR ((aI _ _ _ _).trans hk (fun _ _ h=>h))).e2) ((hk.cell (by simp <;> omega) (fun h=>h)).trans (lf _ _ _ _ _)) ((hk.cell (by simp <;> omega) (fun h=>h)).trans (mm _ _ _ _ _)) ((hk.cell (by simp <;> omega) (fun h=>h)).trans (jW _ _ _ _ _)) (fun hk=>by have:=h.lt _ (hF _ hk);simp at this) (fun hk=>by have:=h.lt _ (hF _ hk);simp at this;omega) (fun g o m c e hk=>(aa NX) g o m c e (hF _ hk)) h2 f2 ho hl)).mono ?_
   rintro e w' ⟨rfl,hr⟩
   go_wp2_with fail
   go_end0
   exact⟨rfl,hr⟩
  ·rw[if_neg hc,cL.fail,if_pos hn]
   have HC:Hid (most<((l.length:Nat):Int)∨4294967295<l.length):=by simp only[Hid];omega
   clear hn hc
   go_enter Tryz.func189,Tryz.ntmps189
   go_wp2_with fail
   refine(gX (w:=w) s.l.length (E 2) h (aa HN) (aI _ _ _ _) (enters Tryz.func209 (by kernel_rfl) (by kernel_rfl) _) (fun wk hk hW=>by
    obtain⟨ao,cap,h2⟩:=hW.sv (aa HN)
    exact mc b xo l.length xc most ⟨w.heap.size,0,none⟩ ⟨w.heap.size+1,0,none⟩ ⟨w.heap.size+1+1,0,none⟩ (E 2) s.nm ao s.l.length cap wk (aa HC) (aa HX) (((aa HG).aR ((aI _ _ _ _).trans hk (fun _ _ h=>h))).e2) ((hk.cell (by simp <;> omega) (fun h=>h)).trans (lf _ _ _ _ _)) ((hk.cell (by simp <;> omega) (fun h=>h)).trans (mm _ _ _ _ _)) ((hk.cell (by simp <;> omega) (fun h=>h)).trans (jW _ _ _ _ _)) hW.c0 h2)).mono ?_
   rintro e w' ⟨rfl,hr⟩
   go_wp2_with fail
   go_end0
   exact⟨rfl,hr⟩
 ·have HN:=ae hn
  have e:(if (l.length:Int)≤most∧l.length<4294967296 then s.bP (be 4 l.length++l) else s.fail (E 2))=s:=by simp[cL.bP,cL.fail,hn]
  rw[e]
  clear hn e
  go_enter Tryz.func189,Tryz.ntmps189
  go_wp2_with fail
  refine(cc (w:=w) h (aa HN) (aI _ _ _ _)).mono ?_
  rintro e w' ⟨rfl,hr⟩
  go_wp2_with fail
  go_end0
  exact⟨rfl,hr⟩
theorem vz (b:Nat) (x:ByteArray) (F:Nat→Prop) (s:cL) (w:World) (h:W w b F s) :
  Calls Tryz.prog 166 #[.pointer (some ⟨b,0,none⟩),.string x] w fun e w'=>e = .returned (.tuple #[])∧W w' b F { s with nm:=x } ∧ Ch w w' F F:=by
 have h0:=h.c0
 have z0:=h.fz 0
 go_enter Tryz.func166,Tryz.ntmps166
 go_wp2
 go_end0
 refine⟨rfl,?_,(Fr.refl _ _).setCell (.inl h.fb) _,fun _ hk=>.inl hk⟩
 have hc:∀ i,i≠0→(w.setCell ⟨b,0,none⟩ (.string x)).cell? ⟨b,i,none⟩=w.cell? ⟨b,i,none⟩:=fun i hi=>World.cell?_setCell_other _ _ _ _ (by intro h;injection h with _ h2 _;exact hi h2.symm)
 refine⟨fun k hk=>by rw[World.size_setCell];exact h.lt k hk,h.lo,h.fb,World.cell?_setCell_same _ _ _ h0,fun i=>by rw[World.frozen?_setCell];exact h.fz i,?_⟩
 rcases h.st with ⟨h1,h2,sv,h3,h4,h5⟩|⟨what,place,ea,fb,h1,h2,h3,h4⟩
 ·exact .inl ⟨h1,(hc 1 (by decide)).trans h2,sv,(hc 2 (by decide)).trans h3,ownsRow_setCell_below h4 (Nat.lt_succ_self b) _,h5⟩
 ·refine .inr ⟨what,place,ea,fb,h1,(hc 1 (by decide)).trans h2,h3,?_⟩
  rw[Below.heap_setCell _ _ _ _ (fun e=>?_)]
  ·exact h4
  ·have e':fb=b:=e
   subst e'
   simp[World.cell?,h4,aJ] at h2
theorem dY (w:World) (hw:9≤w.heap.size) :
  Calls Tryz.prog 67 #[] w fun e w'=>e = .returned (.pointer (some ⟨w.heap.size,0,none⟩))∧W w' w.heap.size (fun k=>k=w.heap.size) ⟨ByteArray.empty,[],none⟩∧Fr (fun _=>False) w w':=by
 go_enter Tryz.func67,Tryz.ntmps67
 go_wp2
 go_ret
 refine⟨rfl,⟨?_,?_,rfl,?_,?_,.inl ⟨rfl,?_,.slice none 0 0,?_,?_,?_⟩⟩,(Fr.refl _ _).alloc _⟩
 ·intro k hk;simp[hk]
 ·intro k hk;omega
 ·simp;rfl
 ·intro i;simp
 ·simp
 ·simp
 ·exact World.ownsRow_nil _ _ _ _
 ·intro k hk;cases hk
end Go.Proofs.YtdcopmkgmbiikaaGreatDoor
