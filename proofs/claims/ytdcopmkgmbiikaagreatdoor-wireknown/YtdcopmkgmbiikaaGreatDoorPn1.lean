import Derived.Test.YtdcopmkgmbiikaaGreatDoorJSen
import Derived.Test.YtdcopmkgmbiikaaGreatDoorJCnt
import Derived.Test.YtdcopmkgmbiikaaGreatDoorJTld
import Derived.LaidHandle
import Derived.Test.YtdcopmkgmbiikaaGreatDoorJRdd
import Derived.Test.YtdcopmkgmbiikaaGreatDoorJFai
import Derived.Test.YtdcopmkgmbiikaaGreatDoorJRbe
import Derived.Test.YtdcopmkgmbiikaaGreatDoorJFlu
import Derived.Test.YtdcopmkgmbiikaaGreatDoorJWra
import Derived.Deep.RegionHeld3
import Derived.Test.YtdcopmkgmbiikaaGreatDoorJWrb
import Derived.Maps.AppendAt
import Derived.Test.YtdcopmkgmbiikaaGreatDoorJBase
import Derived.Deep.RegionLaw
set_option maxRecDepth 100000
set_option maxHeartbeats 2000000
namespace Go.Proofs.YtdcopmkgmbiikaaGreatDoor
open Go.ChangeShapes Go.WideShapes Go.ChangeAt Go.RowKit
theorem Aj {W:World} (h:W.ShapedOpen Tryz.prog):9≤W.heap.size:=by
 obtain⟨cs,hc,_⟩:=h.1 8 #[.bool false] 4 (by decide +kernel) (by kernel_rfl)
 rcases Nat.lt_or_ge 8 W.heap.size with hx|hx
 ·exact hx
 ·rw[Array.getElem?_eq_none hx] at hc;cases hc
theorem Fr.low {w w':World} (h:Fr (fun _=>False) w w'):Below w.heap.size w w':=⟨h.os,h.tape,h.output,h.size,fun k hk=>h.block k hk (fun x=>x)⟩
noncomputable def errLow:Nat:=(World.holding Tryz.prog default ⟨#[],#[],[]⟩).heap.size
noncomputable def errWorld (os:Os):World:=
 let w0:=World.holding Tryz.prog os ⟨#[.cells #[.string ⟨#[116,111,111,32,102,101,119,32,98,121,116,101,115]⟩] 359,.cells #[.string ⟨#[116,111,111,32,108,111,110,103]⟩] 359,.cells #[.string ⟨#[98,121,116,101,115,32,98,101,104,105,110,100,32,116,104,101,32,101,110,100]⟩] 359,.cells #[.string ⟨#[97,32,110,117,109,98,101,114,32,116,104,97,116,32,109,97,121,32,110,111,116,32,98,101]⟩] 359,.cells #[.string ⟨#[110,111,32,115,117,99,104,32,107,105,110,100]⟩] 359,.cells #[.string ⟨#[110,111,116,32,105,110,32,111,114,100,101,114]⟩] 359,.cells #[.string ⟨#[111,119,110]⟩] 359],#[],[]⟩
 { w0 with heap:=(((((((w0.heap.modify 0 fun
   | .cells _ t frozen=>.cells #[.iface 339 (.pointer (some ⟨errLow+0,0,none⟩))] t frozen
   | o=>o).modify 3 fun
   | .cells _ t frozen=>.cells #[.iface 339 (.pointer (some ⟨errLow+1,0,none⟩))] t frozen
   | o=>o).modify 1 fun
   | .cells _ t frozen=>.cells #[.iface 339 (.pointer (some ⟨errLow+2,0,none⟩))] t frozen
   | o=>o).modify 4 fun
   | .cells _ t frozen=>.cells #[.iface 339 (.pointer (some ⟨errLow+3,0,none⟩))] t frozen
   | o=>o).modify 5 fun
   | .cells _ t frozen=>.cells #[.iface 339 (.pointer (some ⟨errLow+4,0,none⟩))] t frozen
   | o=>o).modify 6 fun
   | .cells _ t frozen=>.cells #[.iface 339 (.pointer (some ⟨errLow+5,0,none⟩))] t frozen
   | o=>o).modify 7 fun
   | .cells _ t frozen=>.cells #[.iface 339 (.pointer (some ⟨errLow+6,0,none⟩))] t frozen
   | o=>o) }
theorem Tryz.etG : Tryz.prog.globalNamed "errors.errorType" = some 2 := by kernel_rfl
theorem Tryz.rtT : (Tryz.prog.cutTypes.find? (·.1 == "internal/reflectlite.rtype")).map (·.2) = some 163 := by kernel_rfl
theorem Tryz.A7:((List.range Tryz.prog.types.size).filter fun t=>Tryz.prog.rowNamed t [101,114,114,111,114])=[49]:=by kernel_rfl
theorem Tryz.Bq:typeHandle Tryz.prog 49 = .pointer (some ⟨9,49,none⟩):=by kernel_rfl
def AR : List (String × DataW Unit) := [("almoner/api.ErrShort", Rows.laid_almoner_api_ErrShort), ("almoner/api.ErrLong", Rows.laid_almoner_api_ErrLong), ("almoner/api.ErrTrailing", Rows.laid_almoner_api_ErrTrailing), ("almoner/api.ErrRange", Rows.laid_almoner_api_ErrRange), ("almoner/api.ErrKind", Rows.laid_almoner_api_ErrKind), ("almoner/api.ErrOrder", Rows.laid_almoner_api_ErrOrder), ("almoner/almonerlaw1.own", Rows.laid_almoner_almonerlaw1_own)]
theorem sP {W : World} (h : handlesMet Tryz.prog [("errors.errorType", Rows.laid_errors_errorType)] W) : Et W := by
 obtain⟨name,u,ty,e1,e2,e3,e4,e5⟩:=h _ (List.mem_singleton.2 rfl)
 have en:name=[101,114,114,111,114]:=(Option.some.inj e1).symm
 subst en
 obtain rfl:=Option.some.inj (Tryz.rtT.symm.trans e2)
 have hm:ty∈(List.range Tryz.prog.types.size).filter fun t=>Tryz.prog.rowNamed t [101,114,114,111,114]:=List.mem_filter.2 ⟨List.mem_range.2 e3,e4⟩
 rw[Tryz.A7] at hm
 obtain rfl:=List.mem_singleton.1 hm
 rw[Tryz.Bq] at e5
 unfold Et
 simpa using World.var?_cell Tryz.etG e5 0
theorem td {W : World} (h : laidMetH Tryz.prog (("errors.errorType", Rows.laid_errors_errorType) :: AR) W) : ∃ E, G7 W E := by
 have h' : laidMet Tryz.prog AR W ∧ handlesMet Tryz.prog [("errors.errorType", Rows.laid_errors_errorType)] W := h
 obtain⟨a1,h1⟩:=cD h'.1 (.head _) (g:=0) (by kernel_rfl) (by kernel_rfl)
 obtain⟨a2,h2⟩:=cD h'.1 (.tail _ (.head _)) (g:=3) (by kernel_rfl) (by kernel_rfl)
 obtain⟨a3,h3⟩:=cD h'.1 (.tail _ (.tail _ (.head _))) (g:=1) (by kernel_rfl) (by kernel_rfl)
 obtain⟨a4,h4⟩:=cD h'.1 (.tail _ (.tail _ (.tail _ (.head _)))) (g:=4) (by kernel_rfl) (by kernel_rfl)
 obtain⟨a5,h5⟩:=cD h'.1 (.tail _ (.tail _ (.tail _ (.tail _ (.head _))))) (g:=5) (by kernel_rfl) (by kernel_rfl)
 obtain⟨a6,h6⟩:=cD h'.1 (.tail _ (.tail _ (.tail _ (.tail _ (.tail _ (.head _)))))) (g:=6) (by kernel_rfl) (by kernel_rfl)
 obtain⟨a7,h7⟩:=cD h'.1 (.tail _ (.tail _ (.tail _ (.tail _ (.tail _ (.tail _ (.head _))))))) (g:=7) (by kernel_rfl) (by kernel_rfl)
 exact⟨fun n=>if n=1 then a1 else if n=2 then a2 else if n=3 then a3 else if n=4 then a4 else if n=5 then a5 else if n=6 then a6 else a7,⟨h1,h2,h3⟩,h4,h5,h6,h7,sP h'.2⟩
noncomputable def errWorld8 (os:Os):World:=
 let w0:=errWorld os
 { w0 with heap:=w0.heap.modify 2 fun
   | .cells _ t frozen=>.cells #[.iface 163 (.agg #[.pointer (some ⟨9,49,none⟩)])] t frozen
   | o=>o }
end Go.Proofs.YtdcopmkgmbiikaaGreatDoor
namespace Go.Proofs.YtdcopmkgmbiikaaGreatDoor
open Go.RowKit
theorem Ch.ahead {w wa w':World} {F F':Nat→Prop} (h:Ch w wa F F') (ha:Fr (fun _=>False) wa w'):Ch w w' F F':=
 ⟨h.fr.trans ha (fun _ _ e=>e.elim),h.new⟩
theorem R.oU {w wa w1:World} {b p:Nat} {F:Nat→Prop} {s:dy} {fa ea:Addr} (h:R w b F s) (ha:Fr (fun _=>False) w wa) (hB:aQ wa w1 b fa s.nm p ea) :
  ∃ F',R (w1.setCell ⟨b,1,none⟩ (.pointer (some fa))) b F' { s with f:=some (s.nm,p,ea) } ∧ Ch w (w1.setCell ⟨b,1,none⟩ (.pointer (some fa))) F F':=by
 have hlt:=h.lt b h.fb
 obtain⟨fb,fo,fs⟩:=fa
 obtain⟨rfl,rfl,hge⟩:=hB.yE
 have hge':w.heap.size≤fb:=Nat.le_trans ha.size hge
 have hfl:fb<w1.heap.size:=by
  rcases Nat.lt_or_ge fb w1.heap.size with hx|hx
  ·exact hx
  ·have:=hB.c;rw[Array.getElem?_eq_none hx] at this;cases this
 have hfr:Fr (fun k=>k=b) w w1:=(ha.mono (fun _ _ h=>h.elim)).trans hB.fr (fun _ _ e=>e)
 refine⟨fun k=>F k∨k=fb,⟨?_,?_,.inl h.fb,.inr ⟨s.nm,p,ea,fb,rfl,?_,?_,?_,.inr rfl,by omega,?_⟩⟩,?_,?_⟩
 ·intro k hk
  rw[World.size_setCell]
  rcases hk with hk|rfl
  ·exact Nat.lt_of_lt_of_le (h.lt k hk) hfr.size
  ·exact hfl
 ·intro k hk
  rcases hk with hk|rfl
  ·exact h.lo k hk
  ·have h2:=h.lo b h.fb
   omega
 ·rw[World.cell?_setCell_other _ _ _ _ (by intro h;injection h with _ h2 _;cases h2)];exact hB.c0
 ·intro i;rw[World.frozen?_setCell];exact hB.fz i
 ·exact World.cell?_setCell_same _ _ _ hB.c1
 ·rw[Below.heap_setCell _ _ _ _ (by show fb≠b;omega)];exact hB.c
 ·exact(hfr.mono (T:=F) (fun _ _ e=>by rw[e];exact h.fb)).setCell (.inl h.fb) _
 ·intro k hk
  rcases hk with hk|rfl
  ·exact .inl hk
  ·exact .inr hge'
theorem np (b:Nat) (p0 p1:Addr) (w:World) (hp0:w.cell? p0=some (.pointer (some ⟨b,0,none⟩))) (hp1:w.cell? p1=some .nilIface) :
  Calls Tryz.prog 197 #[.pointer (some p0),.pointer (some p1)] w fun e w'=>e = .returned (.tuple #[])∧Fr (fun _=>False) w w':=by
 go_enter Tryz.func197,Tryz.ntmps197
 go_wp2_with fail
 go_quiet ((go_at_call 198;exact Calls.quiet_of_same (ga _ _ _)))
 go_wp2_with fail
 go_end0
 exact⟨rfl,(Fr.refl _ _).drewN _⟩
theorem u0 (b part:Nat) (p0 p1 ea:Addr) (nm:ByteArray) (sv:Value) (all:List Nat) (place:Nat) (w:World) (h:Rc w b nm sv all place part)
  (hp0:w.cell? p0=some (.pointer (some ⟨b,0,none⟩))) (hp1:w.cell? p1=some (.iface 339 (.pointer (some ea)))) :
  Calls Tryz.prog 197 #[.pointer (some p0),.pointer (some p1)] w fun e w'=>∃ fa,e = .panicked [aG fa]∧aQ w w' b fa nm part ea:=by
 have h0:=h.c0
 have h4:=h.c4
 have H:=ae h
 clear h
 go_enter Tryz.func197,Tryz.ntmps197
 go_wp2_with fail
 go_region_dies
 all_goals
  go_wp2_with fail
  refine(bN b part nm ea w.drew (by simpa using h0) (by simpa using h4)).mono ?_
  rintro e w1 ⟨rfl,rfl⟩
  exact⟨rfl,_,rfl,aQ.of (aa H) (Fr.refl _ _) (bl w nm part ea)⟩
def dy.ah (s:dy) (E:Nat→Addr) (n:Nat):dy:=if n=0∨s.f≠none then s else { s with f:=some (s.nm,s.part,E n) }
theorem vv (b n:Nat) (F:Nat→Prop) (s:dy) (E:Nat→Addr) (w:World) (h:R w b F s) :
  Calls Tryz.prog 171 #[.pointer (some ⟨b,0,none⟩),ba E n] w fun e w'=>e = .returned (.tuple #[])∧∃ F',R w' b F' (s.ah E n)∧Ch w w' F F':=by
 have hb:=h.lt b h.fb
 have hmf:=mf
 by_cases hn:s.f=none
 ·obtain⟨sv,hr,hF⟩:=h.rc hn
  have HN:=ae (And.intro hn (And.intro h hr))
  by_cases h0:n=0
  ·subst h0
   rw[ba,if_pos rfl,dy.ah,if_pos (.inl rfl)]
   clear hn h hr hF
   go_enter Tryz.func171,Tryz.ntmps171
   go_wp2_with fail
   refine(de b 197 _ (fun w'=>Fr (fun _=>False) w w') _ (((aY w _ _).cell hb (fun h=>h)).trans (aa HN).2.2.c1) (enters Tryz.func197 (by kernel_rfl) (by kernel_rfl) _) ?_).mono ?_
   ·refine(np b ⟨w.heap.size,0,none⟩ ⟨w.heap.size+1,0,none⟩ _ (((al _ _).cell (by simp <;> omega) (fun h=>h)).trans (by simp)) (((al _ _).cell (by simp) (fun h=>h)).trans (by simp))).mono ?_
    rintro e w' ⟨rfl,hf⟩
    exact⟨rfl,((aY w _ _).alloc _).trans hf (fun _ _ h=>h)⟩
   ·rintro e w' ⟨rfl,hf⟩
    go_wp2_with fail
    go_end0
    exact⟨rfl,F,(aa HN).2.1.frame hf (fun _ _ h=>h),hf.mono (fun _ _ h=>h.elim),fun _ hk=>.inl hk⟩
  ·rw[ba,if_neg h0,dy.ah,if_neg (by simp[h0,hn])]
   clear hn h hr hF
   go_enter Tryz.func171,Tryz.ntmps171
   go_wp2_with fail
   have hc1:=((aY w (.cells #[.pointer (some ⟨b,0,none⟩)] 141) (.cells #[.iface 339 (.pointer (some (E n)))] 49)).cell (p:=⟨b,1,none⟩) hb (fun h=>h)).trans (aa HN).2.2.c1
   have hk:Fr (fun _=>False) w (((w.alloc (.cells #[.pointer (some ⟨b,0,none⟩)] 141)).alloc (.cells #[.iface 339 (.pointer (some (E n)))] 49)).alloc (.cells #[.pointer (some ⟨b,0,none⟩)] 271)):=(aY w _ _).alloc _
   refine(cM b 197 _ (fun w' fa=>aQ (((w.alloc (.cells #[.pointer (some ⟨b,0,none⟩)] 141)).alloc (.cells #[.iface 339 (.pointer (some (E n)))] 49)).alloc (.cells #[.pointer (some ⟨b,0,none⟩)] 271)) w' b fa s.nm s.part (E n)) _ hc1 (enters Tryz.func197 (by kernel_rfl) (by kernel_rfl) _) ?_ (fun w' fa hB=>⟨(hB.fr.cell (by simp) (by show ¬ _=b;simp;omega)).trans (ua _ _ _),hB.c1,hB.fz 1⟩)).mono ?_
   ·exact u0 b s.part ⟨w.heap.size,0,none⟩ ⟨w.heap.size+1,0,none⟩ (E n) s.nm sv s.all s.place _ ((aa HN).2.2.frame hk (fun h=>h) (fun _ _ _ _ _ h=>h)) (((al _ _).cell (by simp <;> omega) (fun h=>h)).trans (by simp)) (((al _ _).cell (by simp) (fun h=>h)).trans (by simp))
   ·rintro e w' ⟨rfl,w1,fa,hB,rfl⟩
    obtain⟨F',hR,hC⟩:=R.oU (aa HN).2.1 hk hB
    have HR:=ae (And.intro hR hC)
    clear hR hC hB hk hc1
    go_wp2_with fail
    go_end0
    exact⟨rfl,F',(aa HR).1,(aa HR).2⟩
 ·rw[dy.ah,if_pos (.inr hn)]
  have h1:∃ fa,w.cell? ⟨b,1,none⟩=some (.pointer (some fa)):=by
   rcases h.st with ⟨h1,_⟩|⟨what,place,ea,fb,_,_,_,h4,_⟩
   ·exact absurd h1 hn
   ·exact⟨_,h4⟩
  obtain⟨fa,h1⟩:=h1
  have H:=ae h
  clear h hn
  have hv:ba E n = .nilIface∨ba E n = .iface 339 (.pointer (some (E n))):=by unfold ba;split <;> simp
  rcases hv with e|e
  all_goals
   rw[e]
   clear e
   go_enter Tryz.func171,Tryz.ntmps171
   go_wp2_with fail
   refine(bX b fa _ _ (((aY w _ _).cell hb (fun h=>h)).trans h1)).mono ?_
   rintro e w' ⟨rfl,rfl⟩
   go_wp2_with fail
   go_end0
   exact⟨rfl,F,(aa H).frame ((aY w _ _).alloc _) (fun _ _ h=>h),Fr.mono (S:=fun _=>False) ((aY w _ _).alloc _) (fun _ _ h=>h.elim),fun _ hk=>.inl hk⟩
theorem qA (b:Nat) (x:ByteArray) (F:Nat→Prop) (s:dy) (w:World) (h:R w b F s) (hn:s.f≠none) :
  Calls Tryz.prog 85 #[.pointer (some ⟨b,0,none⟩),.string x] w fun e w'=>e = .returned (.tuple #[])∧R w' b F { s with nm:=x } ∧ Fr (fun k=>k=b) w w':=by
 rcases h.st with ⟨h1,_⟩|⟨what,place,ea,fb,h1,h2,h3,h4,h5,h6,h7⟩
 ·exact absurd h1 hn
 have z0:=h3 0
 have H:=ae (And.intro h (And.intro h1 (And.intro h3 (And.intro h4 (And.intro h5 (And.intro h6 h7))))))
 clear h hn h1 h3 h4 h5 h6 h7
 go_enter Tryz.func85,Tryz.ntmps85
 go_wp2
 go_end0
 obtain⟨h,h1,h3,h4,h5,h6,h7⟩:=aa H
 have hf:Fr (fun k=>k=b) w (w.setCell ⟨b,0,none⟩ (.string x)):=Fr.setCell (S:=fun k=>k=b) (Fr.refl _ _) (.inl rfl) _
 exact⟨rfl,⟨fun k hk=>by rw[World.size_setCell];exact h.lt k hk,h.lo,h.fb,.inr ⟨what,place,ea,fb,h1,World.cell?_setCell_same _ _ _ h2,fun i=>by rw[World.frozen?_setCell];exact h3 i,(World.cell?_setCell_other _ _ _ _ (by intro h;injection h with _ h2 _;cases h2)).trans h4,h5,h6,(hf.block fb (h.lt fb h5) (fun e=>h6 e)).trans h7⟩⟩,hf⟩
structure Q where
 nm:ByteArray
 all:List Nat
 place:Nat
 part:Nat
 f:Option (ByteArray × Nat × Nat)
def Q.dH (q:Q) (E:Nat→Addr):dy:=⟨q.nm,q.all,q.place,q.part,q.f.map fun x=>(x.1,x.2.1,E x.2.2)⟩
def Q.fail (q:Q) (n:Nat):Q:={ q with f:=some (q.nm,q.place,n) }
def Q.num (q:Q) (n:Nat):Nat:=val ((q.all.drop q.place).take n)
def wid (k:Int):Nat:=if k=5∨k=6∨k=7 then 4 else k.toNat
def Q.step (q:Q) (p:Pt):Q × Nat × List Nat:=
 if p.k=10 then ({ q with nm:=p.s },0,[])
 else if q.f≠none then (q,0,[])
 else if p.k=9 then (if p.n=0 then q else { q with f:=some (q.nm,q.part,p.n.toNat) },0,[])
 else if q.all.length<wid p.k+q.place then (q.fail 1,0,[])
 else if p.k=5∧bM (q.num 4)=false then (q.fail 4,0,[])
 else if (p.k=6∨p.k=7)∧p.m<(q.num 4:Int) then (q.fail 2,0,[])
 else if p.k≠6 then ({ q with place:=q.place+wid p.k,part:=q.place },q.num (wid p.k),[])
 else if q.all.length<q.num 4+(q.place+4) then (q.fail 1,0,[])
 else ({ q with place:=q.place+4+q.num 4,part:=q.place },0,(q.all.drop (q.place+4)).take (q.num 4))
structure Q.ok (q:Q):Prop where
 place:q.place≤q.all.length
 part:q.part≤q.all.length
 f:∀ x,q.f=some x→x.2.1≤q.all.length∧1≤x.2.2∧x.2.2≤7
def Q.at_ (q:Q):Nat:=match q.f with
 | none=>q.place
 | some x=>x.2.1
theorem Q.xV (q:Q) (p:Pt):(q.step p).1.all=q.all:=by
 unfold Q.step Q.fail
 repeat' split
 all_goals rfl
theorem Q.yP {q:Q} (h:q.ok) (p:Pt) (h9:p.k=9→0≤p.n∧p.n≤7):(q.step p).1.ok:=by
 have h1:=h.place
 have h2:=h.part
 unfold Q.step Q.fail
 split
 ·exact⟨h1,h2,h.f⟩
 split
 ·exact h
 split
 ·rename_i e
  have:=h9 e
  dsimp only
  split
  ·exact h
  ·exact⟨h1,h2,fun x hx=>by obtain rfl:=Option.some.inj hx;exact⟨h2,by show 1≤p.n.toNat;omega,by show p.n.toNat≤7;omega⟩⟩
 split
 ·exact⟨h1,h2,fun x hx=>by obtain rfl:=Option.some.inj hx;exact⟨h1,by dsimp only;decide,by dsimp only;decide⟩⟩
 split
 ·exact⟨h1,h2,fun x hx=>by obtain rfl:=Option.some.inj hx;exact⟨h1,by dsimp only;decide,by dsimp only;decide⟩⟩
 split
 ·exact⟨h1,h2,fun x hx=>by obtain rfl:=Option.some.inj hx;exact⟨h1,by dsimp only;decide,by dsimp only;decide⟩⟩
 split
 ·exact⟨by show q.place+wid p.k≤q.all.length;omega,h1,h.f⟩
 split
 ·exact⟨h1,h2,fun x hx=>by obtain rfl:=Option.some.inj hx;exact⟨h1,by dsimp only;decide,by dsimp only;decide⟩⟩
 ·exact⟨by show q.place+4+q.num 4≤q.all.length;omega,h1,h.f⟩
theorem Q.xz {q:Q} {E:Nat→Addr} (h:q.f=none):(q.dH E).f=none:=by simp[Q.dH,h]
theorem Q.xI {q:Q} {E:Nat→Addr} (h:q.f≠none):(q.dH E).f≠none:=by
 simp only[Q.dH,ne_eq,Option.map_eq_none_iff];exact h
theorem Ch.bh {w w':World} {b:Nat} {F:Nat→Prop} (h:Fr (fun k=>k=b) w w') (hb:F b):Ch w w' F F:=⟨h.mono (fun _ _ e=>by rw[e];exact hb),fun _ hk=>.inl hk⟩
def Q.go (q:Q) (k m:Int):Q × Nat × List Nat:=q.step ⟨k,0,ByteArray.empty,0,m⟩
def Q.named (q:Q) (s:ByteArray):Q:={ q with nm:=s }
def Q.ah (q:Q) (n:Nat):Q:=if n=0∨q.f≠none then q else { q with f:=some (q.nm,q.part,n) }
theorem Q.go_all (q:Q) (k m:Int):(q.go k m).1.all=q.all:=q.xV _
theorem Q.go_ok {q:Q} (h:q.ok) (k m:Int):(q.go k m).1.ok:=Q.yP h _ (fun _=>⟨by simp,by simp⟩)
theorem Q.bt {q:Q} (h:q.ok) (s:ByteArray):(q.named s).ok:=⟨h.place,h.part,h.f⟩
theorem Q.bH {q:Q} (h:q.ok) (n:Nat) (hn:n≤7):(q.ah n).ok:=by
 unfold Q.ah
 split
 ·exact h
 ·rename_i hx
  exact⟨h.place,h.part,fun x hx'=>by
   obtain rfl:=Option.some.inj hx'
   have:n≠0:=fun e=>hx (.inl e)
   exact⟨h.part,by show 1≤n;omega,hn⟩⟩
theorem cm (q:Q) (x:ByteArray) (b:Nat) (F:Nat→Prop) (E:Nat→Addr) (w:World) (h:R w b F (q.dH E)) :
  Calls Tryz.prog 85 #[.pointer (some ⟨b,0,none⟩),.string x] w fun e w'=>e = .returned (.tuple #[])∧R w' b F ((q.named x).dH E)∧Ch w w' F F:=by
 by_cases hf:q.f=none
 ·refine(wU b x F _ w h (Q.xz hf)).mono ?_
  rintro e w' ⟨rfl,hR,hfr⟩
  exact⟨rfl,hR,Ch.bh hfr h.fb⟩
 ·refine(qA b x F _ w h (Q.xI hf)).mono ?_
  rintro e w' ⟨rfl,hR,hfr⟩
  exact⟨rfl,hR,Ch.bh hfr h.fb⟩
theorem rG (q:Q) (n:Nat) (b:Nat) (F:Nat→Prop) (E:Nat→Addr) (w:World) (h:R w b F (q.dH E)) :
  Calls Tryz.prog 171 #[.pointer (some ⟨b,0,none⟩),ba E n] w fun e w'=>e = .returned (.tuple #[])∧∃ F',R w' b F' ((q.ah n).dH E)∧Ch w w' F F':=by
 have es:(q.dH E).ah E n=(q.ah n).dH E:=by
  by_cases h0:n=0
  ·simp[dy.ah,Q.ah,h0]
  ·by_cases hf:q.f=none <;> simp[dy.ah,Q.ah,h0,hf,Q.dH]
 rw[← es]
 exact vv b n F _ E w h
theorem ya (q:Q) (b:Nat) (F:Nat→Prop) (E:Nat→Addr) (w:World) (hg:Gl w E) (h:R w b F (q.dH E)) :
  Calls Tryz.prog 191 #[.pointer (some ⟨b,0,none⟩)] w fun e w'=>e = .returned (.int .u8 (q.go 1 0).2.1)∧∃ F',R w' b F' ((q.go 1 0).1.dH E)∧Ch w w' F F':=by
 obtain⟨nm,all,place,part,f⟩:=q
 have hfb:=h.fb
 cases f with
 | some y =>
  have es:Q.go ⟨nm,all,place,part,some y⟩ 1 0=(⟨nm,all,place,part,some y⟩,0,[]):=by simp[Q.go,Q.step]
  rw[es]
  exact vQ b F _ w h (by simp[Q.dH])
 | none =>
  by_cases hl:all.length<1+place
  ·have es:Q.go ⟨nm,all,place,part,none⟩ 1 0=(⟨nm,all,place,part,some (nm,place,1)⟩,0,[]):=by simp[Q.go,Q.step,wid,Q.fail,hl]
   rw[es]
   exact zm b F _ E w hg h rfl hl
  ·have es:Q.go ⟨nm,all,place,part,none⟩ 1 0=(⟨nm,all,place+1,place,none⟩,val ((all.drop place).take 1),[]):=by simp[Q.go,Q.step,wid,Q.num,hl]
   rw[es]
   refine(A8 b F _ E w hg h rfl (by show 1+place≤all.length;omega)).mono ?_
   rintro e w' ⟨rfl,hR,hfr⟩
   exact⟨rfl,F,hR,Ch.bh hfr hfb⟩
theorem uR (q:Q) (b:Nat) (F:Nat→Prop) (E:Nat→Addr) (w:World) (hg:Gl w E) (h:R w b F (q.dH E)) :
  Calls Tryz.prog 192 #[.pointer (some ⟨b,0,none⟩)] w fun e w'=>e = .returned (.int .u32 (q.go 4 0).2.1)∧∃ F',R w' b F' ((q.go 4 0).1.dH E)∧Ch w w' F F':=by
 obtain⟨nm,all,place,part,f⟩:=q
 have hfb:=h.fb
 cases f with
 | some y =>
  have es:Q.go ⟨nm,all,place,part,some y⟩ 4 0=(⟨nm,all,place,part,some y⟩,0,[]):=by simp[Q.go,Q.step]
  rw[es]
  exact tS b F _ w h (by simp[Q.dH])
 | none =>
  by_cases hl:all.length<4+place
  ·have es:Q.go ⟨nm,all,place,part,none⟩ 4 0=(⟨nm,all,place,part,some (nm,place,1)⟩,0,[]):=by simp[Q.go,Q.step,wid,Q.fail,hl]
   rw[es]
   exact ye b F _ E w hg h rfl hl
  ·have es:Q.go ⟨nm,all,place,part,none⟩ 4 0=(⟨nm,all,place+4,place,none⟩,val ((all.drop place).take 4),[]):=by simp[Q.go,Q.step,wid,Q.num,hl]
   rw[es]
   refine(zt b F _ E w hg h rfl (by show 4+place≤all.length;omega)).mono ?_
   rintro e w' ⟨rfl,hR,hfr⟩
   exact⟨rfl,F,hR,Ch.bh hfr hfb⟩
theorem vL (q:Q) (b:Nat) (F:Nat→Prop) (E:Nat→Addr) (w:World) (hg:Gl w E) (hr:Rg w (E 4)) (h:R w b F (q.dH E)) :
  Calls Tryz.prog 193 #[.pointer (some ⟨b,0,none⟩)] w fun e w'=>e = .returned (.float .f32 (q.go 5 0).2.1)∧∃ F',R w' b F' ((q.go 5 0).1.dH E)∧Ch w w' F F':=by
 obtain⟨nm,all,place,part,f⟩:=q
 have hfb:=h.fb
 cases f with
 | some y =>
  have es:Q.go ⟨nm,all,place,part,some y⟩ 5 0=(⟨nm,all,place,part,some y⟩,0,[]):=by simp[Q.go,Q.step]
  rw[es]
  exact tA b F _ w h (by simp[Q.dH])
 | none =>
  by_cases hl:all.length<4+place
  ·have es:Q.go ⟨nm,all,place,part,none⟩ 5 0=(⟨nm,all,place,part,some (nm,place,1)⟩,0,[]):=by simp[Q.go,Q.step,wid,Q.fail,hl]
   rw[es]
   exact sO b F _ E w hg h rfl hl
  ·cases hqb:bM (val ((all.drop place).take 4)) with
   | false =>
    have es:Q.go ⟨nm,all,place,part,none⟩ 5 0=(⟨nm,all,place,part,some (nm,place,4)⟩,0,[]):=by simp[Q.go,Q.step,wid,Q.fail,Q.num,hl,hqb]
    rw[es]
    exact xp b F _ E (E 4) w hg hr h rfl (by show 4+place≤all.length;omega) hqb
   | true =>
    have es:Q.go ⟨nm,all,place,part,none⟩ 5 0=(⟨nm,all,place+4,place,none⟩,val ((all.drop place).take 4),[]):=by simp[Q.go,Q.step,wid,Q.num,hl,hqb]
    rw[es]
    refine(yU b F _ E (E 4) w hg hr h rfl (by show 4+place≤all.length;omega) hqb).mono ?_
    rintro e w' ⟨rfl,hR,hfr⟩
    exact⟨rfl,F,hR,Ch.bh hfr hfb⟩
theorem p7 (q:Q) (m:Int) (b:Nat) (F:Nat→Prop) (E:Nat→Addr) (w:World) (hm:m<9223372036854775808) (hg:Gl w E) (h:R w b F (q.dH E)) :
  Calls Tryz.prog 196 #[.pointer (some ⟨b,0,none⟩),.int .i64 m] w fun e w'=>e = .returned (.int .i64 (q.go 7 m).2.1)∧∃ F',R w' b F' ((q.go 7 m).1.dH E)∧Ch w w' F F':=by
 obtain⟨nm,all,place,part,f⟩:=q
 have hfb:=h.fb
 cases f with
 | some y =>
  have es:Q.go ⟨nm,all,place,part,some y⟩ 7 m=(⟨nm,all,place,part,some y⟩,0,[]):=by simp[Q.go,Q.step]
  rw[es]
  exact py b m F _ w h (by simp[Q.dH])
 | none =>
  by_cases hl:all.length<4+place
  ·have es:Q.go ⟨nm,all,place,part,none⟩ 7 m=(⟨nm,all,place,part,some (nm,place,1)⟩,0,[]):=by simp[Q.go,Q.step,wid,Q.fail,hl]
   rw[es]
   exact ma b m F _ E (E 1) w (.inl ⟨hl,rfl⟩) hm hg h rfl
  ·by_cases hv:m<(val ((all.drop place).take 4):Int)
   ·have es:Q.go ⟨nm,all,place,part,none⟩ 7 m=(⟨nm,all,place,part,some (nm,place,2)⟩,0,[]):=by simp[Q.go,Q.step,wid,Q.fail,Q.num,hl,hv]
    rw[es]
    exact ma b m F _ E (E 2) w (.inr ⟨by show 4+place≤all.length;omega,hv,rfl⟩) hm hg h rfl
   ·have es:Q.go ⟨nm,all,place,part,none⟩ 7 m=(⟨nm,all,place+4,place,none⟩,val ((all.drop place).take 4),[]):=by simp[Q.go,Q.step,wid,Q.num,hl,hv]
    rw[es]
    refine(uQ b m F _ E w hm hg h rfl (by show 4+place≤all.length;omega) (by show(val ((all.drop place).take 4):Int)≤m;omega)).mono ?_
    rintro e w' ⟨rfl,hR,hfr⟩
    exact⟨rfl,F,hR,Ch.bh hfr hfb⟩
theorem tR (q:Q) (m:Int) (b:Nat) (F:Nat→Prop) (E:Nat→Addr) (w:World) (hm:m<9223372036854775808) (hg:Gl w E) (h:R w b F (q.dH E)) :
  Calls Tryz.prog 194 #[.pointer (some ⟨b,0,none⟩),.int .i64 m] w fun e w'=>e = .returned (.string (strOf (q.go 6 m).2.2))∧∃ F',R w' b F' ((q.go 6 m).1.dH E)∧Ch w w' F F':=by
 obtain⟨nm,all,place,part,f⟩:=q
 have hfb:=h.fb
 cases f with
 | some y =>
  have es:Q.go ⟨nm,all,place,part,some y⟩ 6 m=(⟨nm,all,place,part,some y⟩,0,[]):=by simp[Q.go,Q.step]
  rw[es]
  exact qP b m F _ w h (by simp[Q.dH])
 | none =>
  by_cases hl:all.length<4+place
  ·have es:Q.go ⟨nm,all,place,part,none⟩ 6 m=(⟨nm,all,place,part,some (nm,place,1)⟩,0,[]):=by simp[Q.go,Q.step,wid,Q.fail,hl]
   rw[es]
   exact nM b m F _ E (E 1) w (.inl ⟨hl,rfl⟩) hm hg h rfl
  ·by_cases hv:m<(val ((all.drop place).take 4):Int)
   ·have es:Q.go ⟨nm,all,place,part,none⟩ 6 m=(⟨nm,all,place,part,some (nm,place,2)⟩,0,[]):=by simp[Q.go,Q.step,wid,Q.fail,Q.num,hl,hv]
    rw[es]
    exact nM b m F _ E (E 2) w (.inr ⟨by show 4+place≤all.length;omega,hv,rfl⟩) hm hg h rfl
   ·by_cases hxl:all.length<val ((all.drop place).take 4)+(place+4)
    ·have es:Q.go ⟨nm,all,place,part,none⟩ 6 m=(⟨nm,all,place,part,some (nm,place,1)⟩,0,[]):=by simp[Q.go,Q.step,wid,Q.fail,Q.num,hl,hv,hxl]
     rw[es]
     exact vE b _ m F _ E w hm hg h rfl rfl (by show 4+place≤all.length;omega) (by show(val ((all.drop place).take 4):Int)≤m;omega) hxl
    ·have es:Q.go ⟨nm,all,place,part,none⟩ 6 m=(⟨nm,all,place+4+val ((all.drop place).take 4),place,none⟩,0,(all.drop (place+4)).take (val ((all.drop place).take 4))):=by simp[Q.go,Q.step,wid,Q.num,hl,hv,hxl]
     rw[es]
     refine(ym b (val ((all.drop place).take 4)) m F _ E w hm hg h rfl rfl (by show 4+place≤all.length;omega) (by show(val ((all.drop place).take 4):Int)≤m;omega) (by show val ((all.drop place).take 4)+(place+4)≤all.length;omega)).mono ?_
     rintro e w' ⟨rfl,hR,hfr⟩
     exact⟨rfl,F,hR,Ch.bh hfr hfb⟩
theorem Q.ti (q:Q) (m:Int):(q.go 6 m).2.2.length≤q.all.length:=by
 unfold Q.go Q.step
 repeat' split
 all_goals first
  | exact Nat.zero_le _
  | (simp;omega)
theorem rp (q:Q) (m:Int) (b:Nat) (F:Nat→Prop) (E:Nat→Addr) (w:World) (hm:m<9223372036854775808) (hg:Gl w E) (h:R w b F (q.dH E)) (hal:q.all.length≤140737488355328) :
  Calls Tryz.prog 195 #[.pointer (some ⟨b,0,none⟩),.int .i64 m] w fun e w'=>∃ ao cap,e = .returned (.slice ao (q.go 6 m).2.2.length cap)∧w'.ownsRow w.heap.size 5 1 (.slice ao (q.go 6 m).2.2.length cap) (q.go 6 m).2.2.length (cellsOf (q.go 6 m).2.2)∧∃ F',R w' b F' ((q.go 6 m).1.dH E)∧Ch w w' F F'∧∀ k,(Value.slice ao (q.go 6 m).2.2.length cap).ownBlock=some k→¬ F' k:=by
 obtain⟨nm,all,place,part,f⟩:=q
 have hfb:=h.fb
 have nil:∀ (s':dy) (e:Ending) (w':World),(e = .returned (.slice none 0 0)∧∃ F',R w' b F' s'∧Ch w w' F F')→∃ ao cap,e = .returned (.slice ao ([]:List Nat).length cap)∧w'.ownsRow w.heap.size 5 1 (.slice ao ([]:List Nat).length cap) ([]:List Nat).length (cellsOf [])∧∃ F',R w' b F' s'∧Ch w w' F F'∧∀ k,(Value.slice ao ([]:List Nat).length cap).ownBlock=some k→¬ F' k:=
  fun s' e w' ⟨he,F',hR,hc⟩=>⟨none,0,he,World.ownsRow_nil _ _ _ _,F',hR,hc,fun k hk=>by cases hk⟩
 cases f with
 | some y =>
  have es:Q.go ⟨nm,all,place,part,some y⟩ 6 m=(⟨nm,all,place,part,some y⟩,0,[]):=by simp[Q.go,Q.step]
  rw[es]
  exact(pb b m F _ w h (by simp[Q.dH])).mono (nil _)
 | none =>
  by_cases hl:all.length<4+place
  ·have es:Q.go ⟨nm,all,place,part,none⟩ 6 m=(⟨nm,all,place,part,some (nm,place,1)⟩,0,[]):=by simp[Q.go,Q.step,wid,Q.fail,hl]
   rw[es]
   exact(lV b m F _ E (E 1) w (.inl ⟨hl,rfl⟩) hm hg h rfl).mono (nil _)
  ·by_cases hv:m<(val ((all.drop place).take 4):Int)
   ·have es:Q.go ⟨nm,all,place,part,none⟩ 6 m=(⟨nm,all,place,part,some (nm,place,2)⟩,0,[]):=by simp[Q.go,Q.step,wid,Q.fail,Q.num,hl,hv]
    rw[es]
    exact(lV b m F _ E (E 2) w (.inr ⟨by show 4+place≤all.length;omega,hv,rfl⟩) hm hg h rfl).mono (nil _)
   ·by_cases hxl:all.length<val ((all.drop place).take 4)+(place+4)
    ·have es:Q.go ⟨nm,all,place,part,none⟩ 6 m=(⟨nm,all,place,part,some (nm,place,1)⟩,0,[]):=by simp[Q.go,Q.step,wid,Q.fail,Q.num,hl,hv,hxl]
     rw[es]
     exact(se b _ m F _ E w hm hg h rfl rfl (by show 4+place≤all.length;omega) (by show(val ((all.drop place).take 4):Int)≤m;omega) hxl).mono (nil _)
    ·have es:Q.go ⟨nm,all,place,part,none⟩ 6 m=(⟨nm,all,place+4+val ((all.drop place).take 4),place,none⟩,0,(all.drop (place+4)).take (val ((all.drop place).take 4))):=by simp[Q.go,Q.step,wid,Q.num,hl,hv,hxl]
     rw[es]
     have el:((all.drop (place+4)).take (val ((all.drop place).take 4))).length=val ((all.drop place).take 4):=by simp;omega
     rw[el]
     refine(vJ b (val ((all.drop place).take 4)) m F _ E w hm hg h rfl rfl (by show 4+place≤all.length;omega) (by show(val ((all.drop place).take 4):Int)≤m;omega) (by show val ((all.drop place).take 4)+(place+4)≤all.length;omega) hal).mono ?_
     rintro e w' ⟨ao,cap,rfl,hown,hR,hfr⟩
     exact⟨ao,cap,rfl,hown,F,hR,Ch.bh hfr hfb,fun k hk hF=>by have h1:=(hown.lt k hk).1;have h2:=h.lt k hF;omega⟩
structure Wq where
 nm:ByteArray
 l:List Nat
 f:Option (ByteArray × Nat × Nat)
def Wq.eA (s:Wq) (E:Nat→Addr):cL:=⟨s.nm,s.l,s.f.map fun x=>(x.1,x.2.1,E x.2.2)⟩
def Wq.named (s:Wq) (x:ByteArray):Wq:={ s with nm:=x }
def Wq.bP (s:Wq) (x:List Nat):Wq:=if s.f=none then { s with l:=s.l++x } else s
def Wq.ah (s:Wq) (n:Nat):Wq:=if n=0∨s.f≠none then s else { s with f:=some (s.nm,s.l.length,n) }
theorem Wq.fP {s:Wq} {E:Nat→Addr} (h:s.f≠none):(s.eA E).f≠none:=by
 simp only[Wq.eA,ne_eq,Option.map_eq_none_iff];exact h
theorem Wq.jd (s:Wq) (x:List Nat) (E:Nat→Addr):(s.eA E).bP x=(s.bP x).eA E:=by
 by_cases hf:s.f=none <;> simp[cL.bP,Wq.bP,Wq.eA,hf]
theorem Wq.jn (s:Wq) (n:Nat) (E:Nat→Addr) (hn:n≠0):(s.eA E).fail (E n)=(s.ah n).eA E:=by
 by_cases hf:s.f=none <;> simp[cL.fail,Wq.ah,Wq.eA,hf,hn]
def Wq.gp (s:Wq) (n:Nat) (m:Int) (x:List Nat):Wq:=if (n:Int)≤m∧n<4294967296 then s.bP x else s.ah 2
def Wq.kI (s:Wq) (n m:Int):Wq:=if n<0 then s.ah 4 else s.gp n.toNat m (be 4 n.toNat)
def Wq.lS (s:Wq) (x:Nat):Wq:=if bM x=true then s.bP (be 4 x) else s.ah 4
theorem Wq.oJ (s:Wq) (n:Nat) (m:Int) (x:List Nat) (E:Nat→Addr):(if (n:Int)≤m∧n<4294967296 then (s.eA E).bP x else (s.eA E).fail (E 2))=(s.gp n m x).eA E:=by
 unfold Wq.gp
 split
 ·exact s.jd x E
 ·exact s.jn 2 E (by decide)
theorem Wq.g0 {s:Wq} (h:s.f≠none) (n:Nat) (m:Int) (x:List Nat):s.gp n m x=s:=by simp[Wq.gp,Wq.bP,Wq.ah,h]
theorem Wq.uP {s:Wq} (h:s.f≠none) (n m:Int):s.kI n m=s:=by
 unfold Wq.kI
 split
 ·simp[Wq.ah,h]
 ·exact Wq.g0 h _ _ _
theorem Wq.vF {s:Wq} (h:s.f≠none) (x:Nat):s.lS x=s:=by simp[Wq.lS,Wq.bP,Wq.ah,h]
theorem Wq.lF {s:Wq} (h:s.f≠none) (x:List Nat):s.bP x=s:=by simp[Wq.bP,h]
theorem ic (s:Wq) (x:ByteArray) (b:Nat) (F:Nat→Prop) (E:Nat→Addr) (w:World) (h:W w b F (s.eA E)) :
  Calls Tryz.prog 166 #[.pointer (some ⟨b,0,none⟩),.string x] w fun e w'=>e = .returned (.tuple #[])∧W w' b F ((s.named x).eA E)∧Ch w w' F F:=vz b x F _ w h
theorem yS (s:Wq) (n:Nat) (b:Nat) (F:Nat→Prop) (E:Nat→Addr) (w:World) (h:W w b F (s.eA E)) :
  Calls Tryz.prog 167 #[.pointer (some ⟨b,0,none⟩),ba E n] w fun e w'=>e = .returned (.tuple #[])∧∃ F',W w' b F' ((s.ah n).eA E)∧Ch w w' F F':=by
 have es:(s.eA E).ah E n=(s.ah n).eA E:=by
  by_cases h0:n=0
  ·simp[cL.ah,Wq.ah,h0]
  ·rw[cL.ah,if_neg h0,Wq.jn s n E h0]
 rw[← es]
 exact vu b n F _ E w h
theorem CC (s:Wq) (v:Nat) (b:Nat) (F:Nat→Prop) (E:Nat→Addr) (w:World) (hv:v<256) (h:W w b F (s.eA E)) (hl:s.f=none→s.l.length+1≤140737488355328) :
  Calls Tryz.prog 185 #[.pointer (some ⟨b,0,none⟩),.int .u8 v] w fun e w'=>e = .returned (.tuple #[])∧∃ F',W w' b F' ((s.bP (be 1 v)).eA E)∧Ch w w' F F':=by
 have hmf:=mf
 by_cases hn:s.f=none
 ·rw[← Wq.jd]
  exact zi b v F _ w hv h (hl hn)
 ·rw[Wq.lF hn]
  have HN:=ae (Wq.fP (E:=E) hn)
  clear hn hl
  go_enter Tryz.func185,Tryz.ntmps185
  go_wp2_with fail
  refine(cc (w:=w) h (aa HN) (aY _ _ _)).mono ?_
  rintro e w' ⟨rfl,hr⟩
  go_wp2_with fail
  go_end0
  exact⟨rfl,hr⟩
theorem Bg (s:Wq) (v:Nat) (b:Nat) (F:Nat→Prop) (E:Nat→Addr) (w:World) (hv:v<4294967296) (h:W w b F (s.eA E)) (hl:s.f=none→s.l.length+4≤140737488355328) :
  Calls Tryz.prog 186 #[.pointer (some ⟨b,0,none⟩),.int .u32 v] w fun e w'=>e = .returned (.tuple #[])∧∃ F',W w' b F' ((s.bP (be 4 v)).eA E)∧Ch w w' F F':=by
 have hmf:=mf
 by_cases hn:s.f=none
 ·rw[← Wq.jd]
  exact xq b v F _ w hv h (hl hn)
 ·rw[Wq.lF hn]
  have HN:=ae (Wq.fP (E:=E) hn)
  clear hn hl
  go_enter Tryz.func186,Tryz.ntmps186
  go_wp2_with fail
  refine(cc (w:=w) h (aa HN) (aY _ _ _)).mono ?_
  rintro e w' ⟨rfl,hr⟩
  go_wp2_with fail
  go_end0
  exact⟨rfl,hr⟩
theorem Br (s:Wq) (v:Nat) (b:Nat) (F:Nat→Prop) (E:Nat→Addr) (w:World) (hr:Rg w (E 4)) (hv:v<4294967296) (h:W w b F (s.eA E)) (hl:s.f=none→s.l.length+4≤140737488355328) :
  Calls Tryz.prog 187 #[.pointer (some ⟨b,0,none⟩),.float .f32 v] w fun e w'=>e = .returned (.tuple #[])∧∃ F',W w' b F' ((s.lS v).eA E)∧Ch w w' F F':=by
 have hmf:=mf
 by_cases hn:s.f=none
 ·have es:(s.eA E).lS v (E 4)=(s.lS v).eA E:=by
   unfold cL.lS Wq.lS
   split
   ·exact s.jd _ E
   ·exact s.jn 4 E (by decide)
  rw[← es]
  exact xl b v F _ (E 4) w hr h hv (hl hn)
 ·rw[Wq.vF hn]
  have HN:=ae (Wq.fP (E:=E) hn)
  clear hn hl
  go_enter Tryz.func187,Tryz.ntmps187
  go_wp2_with fail
  refine(cc (w:=w) h (aa HN) (aY _ _ _)).mono ?_
  rintro e w' ⟨rfl,hr⟩
  go_wp2_with fail
  go_end0
  exact⟨rfl,hr⟩
theorem Aq (s:Wq) (x:ByteArray) (m:Int) (b:Nat) (F:Nat→Prop) (E:Nat→Addr) (w:World) (hg:Gl w E) (h:W w b F (s.eA E)) (hx:x.size<9223372036854775808) (hl:s.f=none→s.l.length+4+x.size≤140737488355328) :
  Calls Tryz.prog 188 #[.pointer (some ⟨b,0,none⟩),.string x,.int .i64 m] w fun e w'=>e = .returned (.tuple #[])∧∃ F',W w' b F' ((s.gp x.size m (be 4 x.size++bytesOf x)).eA E)∧Ch w w' F F':=by
 have hmf:=mf
 by_cases hn:s.f=none
 ·rw[← Wq.oJ]
  exact vK b x m F _ E w hg h hx (hl hn)
 ·rw[Wq.g0 hn]
  have HN:=ae (Wq.fP (E:=E) hn)
  clear hn hl hg hx
  go_enter Tryz.func188,Tryz.ntmps188
  go_wp2_with fail
  refine(cc (w:=w) h (aa HN) (aI _ _ _ _)).mono ?_
  rintro e w' ⟨rfl,hr⟩
  go_wp2_with fail
  go_end0
  exact⟨rfl,hr⟩
theorem yi (s:Wq) (x:Value) (l:List Nat) (m:Int) (b:Nat) (F:Nat→Prop) (E:Nat→Addr) (w:World) (hg:Gl w E) (h:W w b F (s.eA E)) (hsrc:Src w x l) (nx:∀ g o m c,x = .slice (some ⟨g,o,none⟩) m c→¬ F g) (hx:l.length<9223372036854775808) (hl:s.f=none→s.l.length+4+l.length≤140737488355328) :
  Calls Tryz.prog 189 #[.pointer (some ⟨b,0,none⟩),x,.int .i64 m] w fun e w'=>e = .returned (.tuple #[])∧∃ F',W w' b F' ((s.gp l.length m (be 4 l.length++l)).eA E)∧Ch w w' F F':=by
 have hmf:=mf
 by_cases hn:s.f=none
 ·rw[← Wq.oJ]
  exact sF b x l m F _ E w hg h hsrc nx hx (hl hn)
 ·rw[Wq.g0 hn]
  obtain⟨xo,xc,rfl⟩:=hsrc.form
  have HN:=ae (Wq.fP (E:=E) hn)
  clear hn hl hg hx hsrc nx
  go_enter Tryz.func189,Tryz.ntmps189
  go_wp2_with fail
  refine(cc (w:=w) h (aa HN) (aI _ _ _ _)).mono ?_
  rintro e w' ⟨rfl,hr⟩
  go_wp2_with fail
  go_end0
  exact⟨rfl,hr⟩
theorem xP (s:Wq) (n m:Int) (b:Nat) (F:Nat→Prop) (E:Nat→Addr) (w:World) (hg:Gl w E) (hr:Rg w (E 4)) (h:W w b F (s.eA E)) (hx:n<9223372036854775808) (hl:s.f=none→s.l.length+4≤140737488355328) :
  Calls Tryz.prog 190 #[.pointer (some ⟨b,0,none⟩),.int .i64 n,.int .i64 m] w fun e w'=>e = .returned (.tuple #[])∧∃ F',W w' b F' ((s.kI n m).eA E)∧Ch w w' F F':=by
 have hmf:=mf
 by_cases hn:s.f=none
 ·have es:(s.eA E).kI n m (E 2) (E 4)=(s.kI n m).eA E:=by
   unfold cL.kI Wq.kI
   by_cases h0:n<0
   ·rw[if_pos h0,if_pos h0];exact s.jn 4 E (by decide)
   ·obtain⟨k,rfl⟩:=Int.eq_ofNat_of_zero_le (show 0≤n by omega)
    rw[if_neg h0,if_neg h0,← Wq.oJ]
    simp only[Int.toNat_natCast]
    by_cases hc:(k:Int)≤m∧k<4294967296
    ·rw[if_pos hc,if_pos ⟨hc.1,by omega⟩]
    ·rw[if_neg hc,if_neg (fun hx=>hc ⟨hx.1,by omega⟩)]
  rw[← es]
  exact tu b n m F _ E (E 4) w hg hr h hx (hl hn)
 ·rw[Wq.uP hn]
  have HN:=ae (Wq.fP (E:=E) hn)
  clear hn hl hg hx hr
  go_enter Tryz.func190,Tryz.ntmps190
  go_wp2_with fail
  refine(cc (w:=w) h (aa HN) (aI _ _ _ _)).mono ?_
  rintro e w' ⟨rfl,hr⟩
  go_wp2_with fail
  go_end0
  exact⟨rfl,hr⟩
inductive CS where
 | wr (s:Wq)
 | rd (q:Q)
def CS.cw (c:CS) (b:Nat):Value:=match c with
 | .wr _=>.pointer (some ⟨b,0,none⟩)
 | .rd _=>.pointer none
def CS.cr (c:CS) (b:Nat):Value:=match c with
 | .wr _=>.pointer none
 | .rd _=>.pointer (some ⟨b,0,none⟩)
def Wq.ok (s:Wq):Prop:=∀ x,s.f=some x→1≤x.2.2∧x.2.2≤7
theorem Wq.bt {s:Wq} (h:s.ok) (x:ByteArray):(s.named x).ok:=h
theorem Wq.bH {s:Wq} (h:s.ok) {n:Nat} (hn:n≤7):(s.ah n).ok:=by
 unfold Wq.ah
 split
 ·exact h
 ·rename_i hx
  intro x hx'
  obtain rfl:=Option.some.inj hx'
  have:n≠0:=fun e=>hx (.inl e)
  exact⟨by show 1≤n;omega,hn⟩
theorem Wq.kP {s:Wq} (h:s.ok) (x:List Nat):(s.bP x).ok:=by
 unfold Wq.bP;split
 ·exact h
 ·exact h
theorem Wq.tH {s:Wq} (h:s.ok) (n:Nat) (m:Int) (x:List Nat):(s.gp n m x).ok:=by
 unfold Wq.gp;split
 ·exact Wq.kP h x
 ·exact Wq.bH h (by decide)
theorem Wq.Bw {s:Wq} (h:s.ok) (n m:Int):(s.kI n m).ok:=by
 unfold Wq.kI;split
 ·exact Wq.bH h (by decide)
 ·exact Wq.tH h _ _ _
theorem Wq.BT {s:Wq} (h:s.ok) (x:Nat):(s.lS x).ok:=by
 unfold Wq.lS;split
 ·exact Wq.kP h _
 ·exact Wq.bH h (by decide)
def CS.ot:CS→Prop
 | .wr s=>s.ok
 | .rd _=>True
def CS.st (c:CS) (w:World) (b:Nat) (F:Nat→Prop) (E:Nat→Addr):Prop:=match c with
 | .wr s=>W w b F (s.eA E)
 | .rd q=>R w b F (q.dH E)∧q.ok∧q.all.length≤140737488355328
structure Cd (w:World) (cb b:Nat) (F:Nat→Prop) (c:CS) (E:Nat→Addr):Prop where
 g7:G6 w E
 nf:¬ F cb
 lt:∀ k,F k→k<w.heap.size
 lo:∀ k,F k→9≤k
 cl:9≤cb
 c0:w.cell? ⟨cb,0,none⟩=some (c.cw b)
 c1:w.cell? ⟨cb,1,none⟩=some (c.cr b)
 st:c.st w b F E
 ot:c.ot
theorem Cd.fr {w w':World} {cb b:Nat} {F S:Nat→Prop} {c:CS} {E:Nat→Addr} (h:Cd w cb b F c E) (hf:Fr S w w') (hS:∀ k,F k→¬ S k) (hC:¬ S cb) (hl:∀ k,S k→9≤k):Cd w' cb b F c E:=by
 have hc:=ab h.c0
 refine⟨h.g7.fr hf hl,h.nf,fun k hk=>Nat.lt_of_lt_of_le (h.lt k hk) hf.size,h.lo,h.cl,(hf.cell (p:=⟨cb,0,none⟩) hc hC).trans h.c0,(hf.cell (p:=⟨cb,1,none⟩) hc hC).trans h.c1,?_,h.ot⟩
 have hst:=h.st
 cases c with
 | wr s=>exact W.frame (s:=s.eA E) hst hf hS
 | rd q=>exact⟨R.frame (s:=q.dH E) hst.1 hf hS,hst.2⟩
theorem Cd.aR {w w':World} {cb b:Nat} {F:Nat→Prop} {c:CS} {E:Nat→Addr} (h:Cd w cb b F c E) (hf:Fr (fun _=>False) w w'):Cd w' cb b F c E:=h.fr hf (fun _ _ h=>h) (fun h=>h) (fun _ h=>h.elim)
structure ar (w w':World) (F F':Nat→Prop) (P:Nat→Nat→Prop):Prop where
 fr:Fr (fun k=>F k∨∃ i,P k i) w w'
 new:∀ k,F' k→F k∨w.heap.size≤k
 oth:∀ g i,g<w.heap.size→¬ F g→¬ P g i→w'.cell? ⟨g,i,none⟩=w.cell? ⟨g,i,none⟩
 fz:∀ g i,g<w.heap.size→¬ F g→w'.frozen? ⟨g,i,none⟩=w.frozen? ⟨g,i,none⟩
theorem ar.cY {w w':World} {F F':Nat→Prop} (h:Ch w w' F F') (P:Nat→Nat→Prop):ar w w' F F' P:=
 ⟨h.fr.mono (fun _ _ h=>.inl h),h.new,fun _ _ hg hF _=>h.fr.cell hg hF,fun _ _ hg hF=>h.fr.frozen hg hF⟩
theorem ar.bh {w w':World} (h:Fr (fun _=>False) w w') (F:Nat→Prop) (P:Nat→Nat→Prop):ar w w' F F P:=
 ⟨h.mono (fun _ _ h=>h.elim),fun _ h=>.inl h,fun _ _ hg _ _=>h.cell hg (fun h=>h),fun _ _ hg _=>h.frozen hg (fun h=>h)⟩
theorem ar.refl (w:World) (F:Nat→Prop) (P:Nat→Nat→Prop):ar w w F F P:=ar.bh (Fr.refl _ _) F P
theorem ar.trans {a b c:World} {F G H:Nat→Prop} {P P':Nat→Nat→Prop} (h:ar a b F G P) (k:ar b c G H P') (hP:∀ g i,g<a.heap.size→P' g i→P g i):ar a c F H P:=by
 have hs:=h.fr.size
 refine⟨h.fr.trans k.fr (fun i hi hx=>?_),fun i hi=>(k.new i hi).elim (fun hg=>h.new i hg) (fun hx=>.inr (Nat.le_trans hs hx)),fun g i hg hF hp=>?_,fun g i hg hF=>?_⟩
 ·rcases hx with hx|⟨j,hx⟩
  ·exact .inl ((h.new i hx).resolve_right (by omega))
  ·exact .inr ⟨j,hP i j hi hx⟩
 ·exact(k.oth g i (by omega) (fun hx=>hF ((h.new g hx).resolve_right (by omega))) (fun hx=>hp (hP g i hg hx))).trans (h.oth g i hg hF hp)
 ·exact(k.fz g i (by omega) (fun hx=>hF ((h.new g hx).resolve_right (by omega)))).trans (h.fz g i hg hF)
theorem ar.mono {a b:World} {F G:Nat→Prop} {P P':Nat→Nat→Prop} (h:ar a b F G P) (hP:∀ g i,g<a.heap.size→P g i→P' g i):ar a b F G P':=
 ⟨h.fr.mono (fun k hk hx=>hx.imp id (fun ⟨j,hj⟩=>⟨j,hP k j hk hj⟩)),h.new,fun g i hg hF hp=>h.oth g i hg hF (fun hx=>hp (hP g i hg hx)),h.fz⟩
theorem ar.set {w:World} {F:Nat→Prop} (g i:Nat) (v:Value):ar w (w.setCell ⟨g,i,none⟩ v) F F (fun k j=>k=g∧j=i):=by
 refine⟨(Fr.refl _ _).setCell (.inl (.inr ⟨i,rfl,rfl⟩)) v,fun _ h=>.inl h,fun k j _ _ hp=>?_,fun k j _ _=>World.frozen?_setCell _ _ _ _⟩
 exact World.cell?_setCell_other _ _ _ _ (by intro h;injection h with h1 h2 _;exact hp ⟨h1.symm,h2.symm⟩)
theorem ar.block {w w':World} {F F':Nat→Prop} {P:Nat→Nat→Prop} (h:ar w w' F F' P) {k:Nat} (hk:k<w.heap.size) (hF:¬ F k) (hP:∀ i,¬ P k i):w'.heap[k]?=w.heap[k]?:=h.fr.block k hk (fun hx=>hx.elim hF (fun ⟨i,hi⟩=>hP i hi))
theorem ar.nF {w w':World} {F F':Nat→Prop} {P:Nat→Nat→Prop} (h:ar w w' F F' P) {k:Nat} (hk:k<w.heap.size) (hF:¬ F k):¬ F' k:=fun hx=>hF ((h.new k hx).resolve_right (by omega))
theorem ar.size {w w':World} {F F':Nat→Prop} {P:Nat→Nat→Prop} (h:ar w w' F F' P):w.heap.size≤w'.heap.size:=h.fr.size
def CS.len:CS→Nat
 | .wr s=>s.l.length
 | .rd _=>0
def CS.room (c:CS) (n:Nat):Prop:=c.len+40000 * n≤140737488355328
def CS.fe (c:CS) (nm:ByteArray) (rs:List (Nat→Nat)) (v:Nat):CS × Nat:=match c with
 | .wr s=>(.wr (((s.named nm).ah (fb rs v)).bP (be 1 v)),v)
 | .rd q=>(.rd (((q.named nm).go 1 0).1.ah (fb rs ((q.named nm).go 1 0).2.1)),((q.named nm).go 1 0).2.1)
def CS.bL (c:CS) (nm:ByteArray) (rs:List (Nat→Nat)) (v:Nat):CS × Nat:=match c with
 | .wr s=>(.wr (((s.named nm).ah (fb rs v)).bP (be 4 v)),v)
 | .rd q=>(.rd (((q.named nm).go 4 0).1.ah (fb rs ((q.named nm).go 4 0).2.1)),((q.named nm).go 4 0).2.1)
def CS.gq (c:CS) (nm:ByteArray) (rs:List (Nat→Nat)) (v:Nat):CS × Nat:=match c with
 | .wr s=>(.wr (((s.named nm).ah (fb rs v)).lS v),v)
 | .rd q=>(.rd (((q.named nm).go 5 0).1.ah (fb rs ((q.named nm).go 5 0).2.1)),((q.named nm).go 5 0).2.1)
def CS.cv (c:CS) (nm:ByteArray) (m:Int) (rs:List (Int→Nat)) (v:Int):CS × Int:=match c with
 | .wr s=>(.wr (((s.named nm).ah (fb rs v)).kI v m),v)
 | .rd q=>(.rd (((q.named nm).go 7 m).1.ah (fb rs (((q.named nm).go 7 m).2.1:Int))),(((q.named nm).go 7 m).2.1:Int))
def CS.dG (c:CS) (nm:ByteArray) (m:Int) (rs:List (ByteArray→Nat)) (v:ByteArray):CS × ByteArray:=match c with
 | .wr s=>(.wr (((s.named nm).ah (fb rs v)).gp v.size m (be 4 v.size++bytesOf v)),v)
 | .rd q=>(.rd (((q.named nm).go 6 m).1.ah (fb rs (strOf ((q.named nm).go 6 m).2.2))),strOf ((q.named nm).go 6 m).2.2)
def CS.eR (c:CS) (nm:ByteArray) (m:Int) (rs:List (List Nat→Nat)) (v:List Nat):CS × List Nat:=match c with
 | .wr s=>(.wr (((s.named nm).ah (fb rs v)).gp v.length m (be 4 v.length++v)),v)
 | .rd q=>(.rd (((q.named nm).go 6 m).1.ah (fb rs ((q.named nm).go 6 m).2.2)),((q.named nm).go 6 m).2.2)
theorem Wq.cS (s:Wq) (n:Nat):(s.ah n).l=s.l:=by unfold Wq.ah;split <;> rfl
theorem Wq.gx (s:Wq) (x:List Nat):(s.bP x).l.length≤s.l.length+x.length:=by
 unfold Wq.bP;split
 ·simp
 ·omega
theorem Wq.oo (s:Wq) (n:Nat) (m:Int) (x:List Nat) (N:Nat) (h:s.f=none→x.length≤N):(s.gp n m x).l.length≤s.l.length+N:=by
 by_cases hf:s.f=none
 ·unfold Wq.gp;split
  ·have:=s.gx x;have:=h hf;omega
  ·rw[Wq.cS];omega
 ·rw[Wq.g0 hf];omega
theorem Wq.fq {s:Wq} {n:Nat} (h:(s.ah n).f=none):n=0:=by
 unfold Wq.ah at h
 split at h
 ·rename_i hx
  rcases hx with hx|hx
  ·exact hx
  ·exact absurd h hx
 ·cases h
theorem CS.ch {c:CS} {n:Nat} (h:c.room (n+1)) (nm:ByteArray) (rs:List (Nat→Nat)) (v:Nat):(c.fe nm rs v).1.room n:=by
 cases c with
 | wr s =>
  have h1:=((s.named nm).ah (fb rs v)).gx (be 1 v)
  rw[Wq.cS,aS] at h1
  simp only[CS.room,CS.len,CS.fe,Wq.named] at *
  omega
 | rd q=>simp only[CS.room,CS.len,CS.fe] at *;omega
theorem CS.aF {c:CS} {n:Nat} (h:c.room (n+1)) (nm:ByteArray) (rs:List (Nat→Nat)) (v:Nat):(c.bL nm rs v).1.room n:=by
 cases c with
 | wr s =>
  have h1:=((s.named nm).ah (fb rs v)).gx (be 4 v)
  rw[Wq.cS,aS] at h1
  simp only[CS.room,CS.len,CS.bL,Wq.named] at *
  omega
 | rd q=>simp only[CS.room,CS.len,CS.bL] at *;omega
theorem CS.nC {c:CS} {n:Nat} (h:c.room (n+1)) (nm:ByteArray) (rs:List (Nat→Nat)) (v:Nat):(c.gq nm rs v).1.room n:=by
 cases c with
 | wr s =>
  have h1:(((s.named nm).ah (fb rs v)).lS v).l.length≤((s.named nm).ah (fb rs v)).l.length+4:=by
   unfold Wq.lS;split
   ·have:=((s.named nm).ah (fb rs v)).gx (be 4 v);rwa [aS] at this
   ·rw[Wq.cS];omega
  rw[Wq.cS] at h1
  simp only[CS.room,CS.len,CS.gq,Wq.named] at *
  omega
 | rd q=>simp only[CS.room,CS.len,CS.gq] at *;omega
theorem CS.gU {c:CS} {n:Nat} (h:c.room (n+1)) (nm:ByteArray) (m:Int) (rs:List (Int→Nat)) (v:Int):(c.cv nm m rs v).1.room n:=by
 cases c with
 | wr s =>
  have h1:(((s.named nm).ah (fb rs v)).kI v m).l.length≤((s.named nm).ah (fb rs v)).l.length+4:=by
   unfold Wq.kI;split
   ·rw[Wq.cS];omega
   ·exact Wq.oo _ _ _ _ 4 (fun _=>by rw[aS];omega)
  rw[Wq.cS] at h1
  simp only[CS.room,CS.len,CS.cv,Wq.named] at *
  omega
 | rd q=>simp only[CS.room,CS.len,CS.cv] at *;omega
theorem CS.uW {c:CS} {n:Nat} (h:c.room (n+1)) (nm:ByteArray) (m:Int) (rs:List (ByteArray→Nat)) (v:ByteArray) (hfit:fb rs v=0→v.size≤32768):(c.dG nm m rs v).1.room n:=by
 cases c with
 | wr s =>
  have h1:=Wq.oo ((s.named nm).ah (fb rs v)) v.size m (be 4 v.size++bytesOf v) 32772 (fun hf=>by
   have:=hfit (Wq.fq hf)
   rw[List.length_append,aS,lJ];omega)
  rw[Wq.cS] at h1
  simp only[CS.room,CS.len,CS.dG,Wq.named] at *
  omega
 | rd q=>simp only[CS.room,CS.len,CS.dG] at *;omega
theorem CS.vj {c:CS} {n:Nat} (h:c.room (n+1)) (nm:ByteArray) (m:Int) (rs:List (List Nat→Nat)) (v:List Nat) (hfit:fb rs v=0→v.length≤32768):(c.eR nm m rs v).1.room n:=by
 cases c with
 | wr s =>
  have h1:=Wq.oo ((s.named nm).ah (fb rs v)) v.length m (be 4 v.length++v) 32772 (fun hf=>by
   have:=hfit (Wq.fq hf)
   rw[List.length_append,aS];omega)
  rw[Wq.cS] at h1
  simp only[CS.room,CS.len,CS.eR,Wq.named] at *
  omega
 | rd q=>simp only[CS.room,CS.len,CS.eR] at *;omega
theorem Tryz.AJ (p:Addr) (w:World):(Instr.typeAssert (.iface 239 (.pointer (some p))) 20 239 true).run Tryz.prog w = .ok (.tuple #[.pointer (some p),.bool true]) w:=by kernel_rfl
theorem Tryz.yk (p:Addr) (w:World):(Instr.typeAssert (.iface 246 (.pointer (some p))) 20 246 true).run Tryz.prog w = .ok (.tuple #[.pointer (some p),.bool true]) w:=by kernel_rfl
theorem Tryz.yG (p:Addr) (w:World):(Instr.typeAssert (.iface 303 (.pointer (some p))) 20 303 true).run Tryz.prog w = .ok (.tuple #[.pointer (some p),.bool true]) w:=by kernel_rfl
theorem Tryz.xK (p:Addr) (w:World):(Instr.typeAssert (.iface 258 (.pointer (some p))) 20 258 true).run Tryz.prog w = .ok (.tuple #[.pointer (some p),.bool true]) w:=by kernel_rfl
theorem Tryz.xA (p:Addr) (w:World):(Instr.typeAssert (.iface 265 (.pointer (some p))) 20 265 true).run Tryz.prog w = .ok (.tuple #[.pointer (some p),.bool true]) w:=by kernel_rfl
theorem Tryz.wR (p:Addr) (w:World):(Instr.typeAssert (.iface 289 (.pointer (some p))) 20 289 true).run Tryz.prog w = .ok (.tuple #[.pointer (some p),.bool true]) w:=by kernel_rfl
theorem Tryz.mJ (p:Addr) (w:World):(Instr.typeAssert (.iface 246 (.pointer (some p))) 20 239 true).run Tryz.prog w = .ok (.tuple #[.pointer none,.bool false]) w:=by kernel_rfl
theorem Tryz.mq (p:Addr) (w:World):(Instr.typeAssert (.iface 303 (.pointer (some p))) 20 239 true).run Tryz.prog w = .ok (.tuple #[.pointer none,.bool false]) w:=by kernel_rfl
theorem Tryz.mN (p:Addr) (w:World):(Instr.typeAssert (.iface 258 (.pointer (some p))) 20 239 true).run Tryz.prog w = .ok (.tuple #[.pointer none,.bool false]) w:=by kernel_rfl
theorem Tryz.Cs (p:Addr) (w:World):(Instr.typeAssert (.iface 265 (.pointer (some p))) 20 239 true).run Tryz.prog w = .ok (.tuple #[.pointer none,.bool false]) w:=by kernel_rfl
theorem Tryz.mo (p:Addr) (w:World):(Instr.typeAssert (.iface 289 (.pointer (some p))) 20 239 true).run Tryz.prog w = .ok (.tuple #[.pointer none,.bool false]) w:=by kernel_rfl
theorem Tryz.mG (p:Addr) (w:World):(Instr.typeAssert (.iface 303 (.pointer (some p))) 20 246 true).run Tryz.prog w = .ok (.tuple #[.pointer none,.bool false]) w:=by kernel_rfl
theorem Tryz.mT (p:Addr) (w:World):(Instr.typeAssert (.iface 258 (.pointer (some p))) 20 246 true).run Tryz.prog w = .ok (.tuple #[.pointer none,.bool false]) w:=by kernel_rfl
theorem Tryz.CK (p:Addr) (w:World):(Instr.typeAssert (.iface 265 (.pointer (some p))) 20 246 true).run Tryz.prog w = .ok (.tuple #[.pointer none,.bool false]) w:=by kernel_rfl
theorem Tryz.nk (p:Addr) (w:World):(Instr.typeAssert (.iface 289 (.pointer (some p))) 20 246 true).run Tryz.prog w = .ok (.tuple #[.pointer none,.bool false]) w:=by kernel_rfl
theorem Tryz.iC (p:Addr) (w:World):(Instr.typeAssert (.iface 258 (.pointer (some p))) 20 303 true).run Tryz.prog w = .ok (.tuple #[.pointer none,.bool false]) w:=by kernel_rfl
theorem Tryz.AM (p:Addr) (w:World):(Instr.typeAssert (.iface 265 (.pointer (some p))) 20 303 true).run Tryz.prog w = .ok (.tuple #[.pointer none,.bool false]) w:=by kernel_rfl
theorem Tryz.ir (p:Addr) (w:World):(Instr.typeAssert (.iface 289 (.pointer (some p))) 20 303 true).run Tryz.prog w = .ok (.tuple #[.pointer none,.bool false]) w:=by kernel_rfl
theorem Tryz.AN (p:Addr) (w:World):(Instr.typeAssert (.iface 265 (.pointer (some p))) 20 258 true).run Tryz.prog w = .ok (.tuple #[.pointer none,.bool false]) w:=by kernel_rfl
theorem Tryz.iA (p:Addr) (w:World):(Instr.typeAssert (.iface 289 (.pointer (some p))) 20 258 true).run Tryz.prog w = .ok (.tuple #[.pointer none,.bool false]) w:=by kernel_rfl
theorem Tryz.iw (p:Addr) (w:World):(Instr.typeAssert (.iface 289 (.pointer (some p))) 20 265 true).run Tryz.prog w = .ok (.tuple #[.pointer none,.bool false]) w:=by kernel_rfl
theorem Bp (s:Wq) (v:Nat) (m:Int) (p:Addr) (b:Nat) (F:Nat→Prop) (E:Nat→Addr) (w:World) (hp:w.cell? p=some (.int .u8 (v:Nat))) (hv:v<256) (h:W w b F (s.eA E)) (hl:s.f=none→s.l.length+(1)≤140737488355328) :
  Calls Tryz.prog 169 #[.pointer (some ⟨b,0,none⟩),.iface 239 (.pointer (some p)),.int .i64 m] w fun e w'=>e = .returned (.tuple #[])∧∃ F',W w' b F' ((s.bP (be 1 v)).eA E)∧Ch w w' F F':=by
 have H:=ae (And.intro h hl)
 clear h hl
 have t0:=Tryz.AJ
 have t1:=Tryz.mJ
 have t2:=Tryz.mq
 have t3:=Tryz.mN
 have t5:=Tryz.mo
 have t6:=Tryz.mG
 have t7:=Tryz.mT
 have t9:=Tryz.nk
 have t10:=Tryz.iC
 have t12:=Tryz.ir
 have t14:=Tryz.iA
 have t15:=Tryz.iw
 go_enter Tryz.func169,Tryz.ntmps169
 go_wp2_with fail
 refine(CC s v b F E w hv (aa H).1 (aa H).2).mono ?_
 rintro e w' ⟨rfl,hr⟩
 have HR:=ae hr
 clear hr
 go_wp2_with fail
 go_end0
 exact⟨rfl,aa HR⟩
theorem zZ (s:Wq) (v:Nat) (m:Int) (p:Addr) (b:Nat) (F:Nat→Prop) (E:Nat→Addr) (w:World) (hp:w.cell? p=some (.int .u32 (v:Nat))) (hv:v<4294967296) (h:W w b F (s.eA E)) (hl:s.f=none→s.l.length+(4)≤140737488355328) :
  Calls Tryz.prog 169 #[.pointer (some ⟨b,0,none⟩),.iface 246 (.pointer (some p)),.int .i64 m] w fun e w'=>e = .returned (.tuple #[])∧∃ F',W w' b F' ((s.bP (be 4 v)).eA E)∧Ch w w' F F':=by
 have H:=ae (And.intro h hl)
 clear h hl
 have t0:=Tryz.yk
 have t1:=Tryz.mJ
 have t2:=Tryz.mq
 have t3:=Tryz.mN
 have t5:=Tryz.mo
 have t6:=Tryz.mG
 have t7:=Tryz.mT
 have t9:=Tryz.nk
 have t10:=Tryz.iC
 have t12:=Tryz.ir
 have t14:=Tryz.iA
 have t15:=Tryz.iw
 go_enter Tryz.func169,Tryz.ntmps169
 go_wp2_with fail
 refine(Bg s v b F E w hv (aa H).1 (aa H).2).mono ?_
 rintro e w' ⟨rfl,hr⟩
 have HR:=ae hr
 clear hr
 go_wp2_with fail
 go_end0
 exact⟨rfl,aa HR⟩
theorem AH (s:Wq) (v:Nat) (m:Int) (p:Addr) (b:Nat) (F:Nat→Prop) (E:Nat→Addr) (w:World) (hp:w.cell? p=some (.float .f32 v)) (hv:v<4294967296) (hg:G6 w E) (h:W w b F (s.eA E)) (hl:s.f=none→s.l.length+(4)≤140737488355328) :
  Calls Tryz.prog 169 #[.pointer (some ⟨b,0,none⟩),.iface 303 (.pointer (some p)),.int .i64 m] w fun e w'=>e = .returned (.tuple #[])∧∃ F',W w' b F' ((s.lS v).eA E)∧Ch w w' F F':=by
 have H:=ae (And.intro h hl)
 clear h hl
 have t0:=Tryz.yG
 have t1:=Tryz.mJ
 have t2:=Tryz.mq
 have t3:=Tryz.mN
 have t5:=Tryz.mo
 have t6:=Tryz.mG
 have t7:=Tryz.mT
 have t9:=Tryz.nk
 have t10:=Tryz.iC
 have t12:=Tryz.ir
 have t14:=Tryz.iA
 have t15:=Tryz.iw
 go_enter Tryz.func169,Tryz.ntmps169
 go_wp2_with fail
 refine(Br s v b F E w hg.e4 hv (aa H).1 (aa H).2).mono ?_
 rintro e w' ⟨rfl,hr⟩
 have HR:=ae hr
 clear hr
 go_wp2_with fail
 go_end0
 exact⟨rfl,aa HR⟩
theorem za (s:Wq) (v:ByteArray) (m:Int) (p:Addr) (b:Nat) (F:Nat→Prop) (E:Nat→Addr) (w:World) (hp:w.cell? p=some (.string v)) (hv:v.size<9223372036854775808) (hg:G6 w E) (h:W w b F (s.eA E)) (hl:s.f=none→s.l.length+(4+v.size)≤140737488355328) :
  Calls Tryz.prog 169 #[.pointer (some ⟨b,0,none⟩),.iface 258 (.pointer (some p)),.int .i64 m] w fun e w'=>e = .returned (.tuple #[])∧∃ F',W w' b F' ((s.gp v.size m (be 4 v.size++bytesOf v)).eA E)∧Ch w w' F F':=by
 have H:=ae (And.intro h hl)
 clear h hl
 have t0:=Tryz.xK
 have t1:=Tryz.mJ
 have t2:=Tryz.mq
 have t3:=Tryz.mN
 have t5:=Tryz.mo
 have t6:=Tryz.mG
 have t7:=Tryz.mT
 have t9:=Tryz.nk
 have t10:=Tryz.iC
 have t12:=Tryz.ir
 have t14:=Tryz.iA
 have t15:=Tryz.iw
 go_enter Tryz.func169,Tryz.ntmps169
 go_wp2_with fail
 refine(Aq s v m b F E w hg.gl (aa H).1 hv (fun e=>by have:=(aa H).2 e;omega)).mono ?_
 rintro e w' ⟨rfl,hr⟩
 have HR:=ae hr
 clear hr
 go_wp2_with fail
 go_end0
 exact⟨rfl,aa HR⟩
theorem zV (s:Wq) (v:Int) (m:Int) (p:Addr) (b:Nat) (F:Nat→Prop) (E:Nat→Addr) (w:World) (hp:w.cell? p=some (.int .i64 v)) (hv:v<9223372036854775808) (hg:G6 w E) (h:W w b F (s.eA E)) (hl:s.f=none→s.l.length+(4)≤140737488355328) :
  Calls Tryz.prog 169 #[.pointer (some ⟨b,0,none⟩),.iface 289 (.pointer (some p)),.int .i64 m] w fun e w'=>e = .returned (.tuple #[])∧∃ F',W w' b F' ((s.kI v m).eA E)∧Ch w w' F F':=by
 have H:=ae (And.intro h hl)
 clear h hl
 have t0:=Tryz.wR
 have t1:=Tryz.mJ
 have t2:=Tryz.mq
 have t3:=Tryz.mN
 have t5:=Tryz.mo
 have t6:=Tryz.mG
 have t7:=Tryz.mT
 have t9:=Tryz.nk
 have t10:=Tryz.iC
 have t12:=Tryz.ir
 have t14:=Tryz.iA
 have t15:=Tryz.iw
 go_enter Tryz.func169,Tryz.ntmps169
 go_wp2_with fail
 refine(xP s v m b F E w hg.gl hg.e4 (aa H).1 hv (aa H).2).mono ?_
 rintro e w' ⟨rfl,hr⟩
 have HR:=ae hr
 clear hr
 go_wp2_with fail
 go_end0
 exact⟨rfl,aa HR⟩
theorem zJ (s:Wq) (x:Value) (l:List Nat) (m:Int) (p:Addr) (b:Nat) (F:Nat→Prop) (E:Nat→Addr) (w:World) (hp:w.cell? p=some x) (hsrc:Src w x l) (nx:∀ g o m c,x = .slice (some ⟨g,o,none⟩) m c→¬ F g) (hx:l.length<9223372036854775808) (hg:G6 w E) (h:W w b F (s.eA E)) (hl:s.f=none→s.l.length+(4+l.length)≤140737488355328) :
  Calls Tryz.prog 169 #[.pointer (some ⟨b,0,none⟩),.iface 265 (.pointer (some p)),.int .i64 m] w fun e w'=>e = .returned (.tuple #[])∧∃ F',W w' b F' ((s.gp l.length m (be 4 l.length++l)).eA E)∧Ch w w' F F':=by
 have H:=ae (And.intro h (And.intro hl (And.intro hsrc nx)))
 clear h hl nx
 obtain⟨xo,xc,rfl⟩:=hsrc.form
 clear hsrc
 have t0:=Tryz.xA
 have t4:=Tryz.Cs
 have t8:=Tryz.CK
 have t11:=Tryz.AM
 have t13:=Tryz.AN
 go_enter Tryz.func169,Tryz.ntmps169
 go_wp2_with fail
 refine(yi s _ l m b F E w hg.gl (aa H).1 (aa H).2.2.1 (aa H).2.2.2 hx (fun e=>by have:=(aa H).2.1 e;omega)).mono ?_
 rintro e w' ⟨rfl,hr⟩
 have HR:=ae hr
 clear hr
 go_wp2_with fail
 go_end0
 exact⟨rfl,aa HR⟩
theorem g9 {w w1:World} {b g i:Nat} {F F1:Nat→Prop} {s:dy} {old:Value} (v:Value) (hR:R w1 b F1 s) (hc:Ch w w1 F F1) (hp:w.cell? ⟨g,i,none⟩=some old) (hgF:¬ F g) :
  R (w1.setCell ⟨g,i,none⟩ v) b F1 s∧(w1.setCell ⟨g,i,none⟩ v).cell? ⟨g,i,none⟩=some v∧ar w (w1.setCell ⟨g,i,none⟩ v) F F1 (fun k j=>k=g∧j=i):=by
 have hg:=ab hp
 have hg1:¬ F1 g:=fun hx=>hgF ((hc.new g hx).resolve_right (by simp at hg;omega))
 have hp1:w1.cell? ⟨g,i,none⟩=some old:=(hc.fr.cell (p:=⟨g,i,none⟩) hg hgF).trans hp
 refine⟨hR.frame ((Fr.refl (fun k=>k=g) _).setCell (.inl rfl) v) (fun k hk e=>hg1 (e ▸ hk)),World.cell?_setCell_same _ _ _ hp1,(ar.cY hc _).trans (ar.set g i v) (fun _ _ _ h=>h)⟩
theorem Ab (q:Q) (m:Int) (g i:Nat) (old:Value) (b:Nat) (F:Nat→Prop) (E:Nat→Addr) (w:World)  (hp:w.cell? ⟨g,i,none⟩=some old) (fz:w.frozen? ⟨g,i,none⟩=false) (hgF:¬ F g) (hg:G6 w E) (h:R w b F (q.dH E)) :
  Calls Tryz.prog 170 #[.pointer (some ⟨b,0,none⟩),.iface 239 (.pointer (some ⟨g,i,none⟩)),.int .i64 m] w fun e w'=>e = .returned (.tuple #[])∧∃ F',R w' b F' ((q.go 1 0).1.dH E)∧w'.cell? ⟨g,i,none⟩=some (.int .u8 (q.go 1 0).2.1)∧ar w w' F F' (fun k j=>k=g∧j=i):=by
 have H:=ae h
 clear h
 have t0:=Tryz.AJ
 have t1:=Tryz.mJ
 have t2:=Tryz.mq
 have t3:=Tryz.mN
 have t5:=Tryz.mo
 have t6:=Tryz.mG
 have t7:=Tryz.mT
 have t9:=Tryz.nk
 have t10:=Tryz.iC
 have t12:=Tryz.ir
 have t14:=Tryz.iA
 have t15:=Tryz.iw
 go_enter Tryz.func170,Tryz.ntmps170
 go_wp2_with fail
 refine(ya q b F E w hg.gl (aa H)).mono ?_
 rintro e w1 ⟨rfl,F1,hR,hc⟩
 have hp1:w1.cell? ⟨g,i,none⟩=some old:=(hc.fr.cell (p:=⟨g,i,none⟩) (ab hp) hgF).trans hp
 have fz1:w1.frozen? ⟨g,i,none⟩=false:=(hc.fr.frozen (p:=⟨g,i,none⟩) (ab hp) hgF).trans fz
 have HR:=ae (And.intro hR hc)
 clear hR hc
 go_wp2_with fail
 go_end0
 obtain⟨h1,h2,h3⟩:=g9 (.int .u8 (q.go 1 0).2.1) (aa HR).1 (aa HR).2 hp hgF
 exact⟨rfl,F1,h1,h2,h3⟩
theorem xX (q:Q) (m:Int) (g i:Nat) (old:Value) (b:Nat) (F:Nat→Prop) (E:Nat→Addr) (w:World)  (hp:w.cell? ⟨g,i,none⟩=some old) (fz:w.frozen? ⟨g,i,none⟩=false) (hgF:¬ F g) (hg:G6 w E) (h:R w b F (q.dH E)) :
  Calls Tryz.prog 170 #[.pointer (some ⟨b,0,none⟩),.iface 246 (.pointer (some ⟨g,i,none⟩)),.int .i64 m] w fun e w'=>e = .returned (.tuple #[])∧∃ F',R w' b F' ((q.go 4 0).1.dH E)∧w'.cell? ⟨g,i,none⟩=some (.int .u32 (q.go 4 0).2.1)∧ar w w' F F' (fun k j=>k=g∧j=i):=by
 have H:=ae h
 clear h
 have t0:=Tryz.yk
 have t1:=Tryz.mJ
 have t2:=Tryz.mq
 have t3:=Tryz.mN
 have t5:=Tryz.mo
 have t6:=Tryz.mG
 have t7:=Tryz.mT
 have t9:=Tryz.nk
 have t10:=Tryz.iC
 have t12:=Tryz.ir
 have t14:=Tryz.iA
 have t15:=Tryz.iw
 go_enter Tryz.func170,Tryz.ntmps170
 go_wp2_with fail
 refine(uR q b F E w hg.gl (aa H)).mono ?_
 rintro e w1 ⟨rfl,F1,hR,hc⟩
 have hp1:w1.cell? ⟨g,i,none⟩=some old:=(hc.fr.cell (p:=⟨g,i,none⟩) (ab hp) hgF).trans hp
 have fz1:w1.frozen? ⟨g,i,none⟩=false:=(hc.fr.frozen (p:=⟨g,i,none⟩) (ab hp) hgF).trans fz
 have HR:=ae (And.intro hR hc)
 clear hR hc
 go_wp2_with fail
 go_end0
 obtain⟨h1,h2,h3⟩:=g9 (.int .u32 (q.go 4 0).2.1) (aa HR).1 (aa HR).2 hp hgF
 exact⟨rfl,F1,h1,h2,h3⟩
theorem yB (q:Q) (m:Int) (g i:Nat) (old:Value) (b:Nat) (F:Nat→Prop) (E:Nat→Addr) (w:World)  (hp:w.cell? ⟨g,i,none⟩=some old) (fz:w.frozen? ⟨g,i,none⟩=false) (hgF:¬ F g) (hg:G6 w E) (h:R w b F (q.dH E)) :
  Calls Tryz.prog 170 #[.pointer (some ⟨b,0,none⟩),.iface 303 (.pointer (some ⟨g,i,none⟩)),.int .i64 m] w fun e w'=>e = .returned (.tuple #[])∧∃ F',R w' b F' ((q.go 5 0).1.dH E)∧w'.cell? ⟨g,i,none⟩=some (.float .f32 (q.go 5 0).2.1)∧ar w w' F F' (fun k j=>k=g∧j=i):=by
 have H:=ae h
 clear h
 have t0:=Tryz.yG
 have t1:=Tryz.mJ
 have t2:=Tryz.mq
 have t3:=Tryz.mN
 have t5:=Tryz.mo
 have t6:=Tryz.mG
 have t7:=Tryz.mT
 have t9:=Tryz.nk
 have t10:=Tryz.iC
 have t12:=Tryz.ir
 have t14:=Tryz.iA
 have t15:=Tryz.iw
 go_enter Tryz.func170,Tryz.ntmps170
 go_wp2_with fail
 refine(vL q b F E w hg.gl hg.e4 (aa H)).mono ?_
 rintro e w1 ⟨rfl,F1,hR,hc⟩
 have hp1:w1.cell? ⟨g,i,none⟩=some old:=(hc.fr.cell (p:=⟨g,i,none⟩) (ab hp) hgF).trans hp
 have fz1:w1.frozen? ⟨g,i,none⟩=false:=(hc.fr.frozen (p:=⟨g,i,none⟩) (ab hp) hgF).trans fz
 have HR:=ae (And.intro hR hc)
 clear hR hc
 go_wp2_with fail
 go_end0
 obtain⟨h1,h2,h3⟩:=g9 (.float .f32 (q.go 5 0).2.1) (aa HR).1 (aa HR).2 hp hgF
 exact⟨rfl,F1,h1,h2,h3⟩
theorem yp (q:Q) (m:Int) (g i:Nat) (old:Value) (b:Nat) (F:Nat→Prop) (E:Nat→Addr) (w:World) (hm:m<9223372036854775808) (hp:w.cell? ⟨g,i,none⟩=some old) (fz:w.frozen? ⟨g,i,none⟩=false) (hgF:¬ F g) (hg:G6 w E) (h:R w b F (q.dH E)) :
  Calls Tryz.prog 170 #[.pointer (some ⟨b,0,none⟩),.iface 258 (.pointer (some ⟨g,i,none⟩)),.int .i64 m] w fun e w'=>e = .returned (.tuple #[])∧∃ F',R w' b F' ((q.go 6 m).1.dH E)∧w'.cell? ⟨g,i,none⟩=some (.string (strOf (q.go 6 m).2.2))∧ar w w' F F' (fun k j=>k=g∧j=i):=by
 have H:=ae h
 clear h
 have t0:=Tryz.xK
 have t1:=Tryz.mJ
 have t2:=Tryz.mq
 have t3:=Tryz.mN
 have t5:=Tryz.mo
 have t6:=Tryz.mG
 have t7:=Tryz.mT
 have t9:=Tryz.nk
 have t10:=Tryz.iC
 have t12:=Tryz.ir
 have t14:=Tryz.iA
 have t15:=Tryz.iw
 go_enter Tryz.func170,Tryz.ntmps170
 go_wp2_with fail
 refine(tR q m b F E w hm hg.gl (aa H)).mono ?_
 rintro e w1 ⟨rfl,F1,hR,hc⟩
 have hp1:w1.cell? ⟨g,i,none⟩=some old:=(hc.fr.cell (p:=⟨g,i,none⟩) (ab hp) hgF).trans hp
 have fz1:w1.frozen? ⟨g,i,none⟩=false:=(hc.fr.frozen (p:=⟨g,i,none⟩) (ab hp) hgF).trans fz
 have HR:=ae (And.intro hR hc)
 clear hR hc
 go_wp2_with fail
 go_end0
 obtain⟨h1,h2,h3⟩:=g9 (.string (strOf (q.go 6 m).2.2)) (aa HR).1 (aa HR).2 hp hgF
 exact⟨rfl,F1,h1,h2,h3⟩
theorem xY (q:Q) (m:Int) (g i:Nat) (old:Value) (b:Nat) (F:Nat→Prop) (E:Nat→Addr) (w:World) (hm:m<9223372036854775808) (hp:w.cell? ⟨g,i,none⟩=some old) (fz:w.frozen? ⟨g,i,none⟩=false) (hgF:¬ F g) (hg:G6 w E) (h:R w b F (q.dH E)) :
  Calls Tryz.prog 170 #[.pointer (some ⟨b,0,none⟩),.iface 289 (.pointer (some ⟨g,i,none⟩)),.int .i64 m] w fun e w'=>e = .returned (.tuple #[])∧∃ F',R w' b F' ((q.go 7 m).1.dH E)∧w'.cell? ⟨g,i,none⟩=some (.int .i64 (q.go 7 m).2.1)∧ar w w' F F' (fun k j=>k=g∧j=i):=by
 have H:=ae h
 clear h
 have t0:=Tryz.wR
 have t1:=Tryz.mJ
 have t2:=Tryz.mq
 have t3:=Tryz.mN
 have t5:=Tryz.mo
 have t6:=Tryz.mG
 have t7:=Tryz.mT
 have t9:=Tryz.nk
 have t10:=Tryz.iC
 have t12:=Tryz.ir
 have t14:=Tryz.iA
 have t15:=Tryz.iw
 go_enter Tryz.func170,Tryz.ntmps170
 go_wp2_with fail
 refine(p7 q m b F E w hm hg.gl (aa H)).mono ?_
 rintro e w1 ⟨rfl,F1,hR,hc⟩
 have hp1:w1.cell? ⟨g,i,none⟩=some old:=(hc.fr.cell (p:=⟨g,i,none⟩) (ab hp) hgF).trans hp
 have fz1:w1.frozen? ⟨g,i,none⟩=false:=(hc.fr.frozen (p:=⟨g,i,none⟩) (ab hp) hgF).trans fz
 have HR:=ae (And.intro hR hc)
 clear hR hc
 go_wp2_with fail
 go_end0
 obtain⟨h1,h2,h3⟩:=g9 (.int .i64 (q.go 7 m).2.1) (aa HR).1 (aa HR).2 hp hgF
 exact⟨rfl,F1,h1,h2,h3⟩
theorem wH (q:Q) (m:Int) (g i:Nat) (old:Value) (b:Nat) (F:Nat→Prop) (E:Nat→Addr) (w:World) (hm:m<9223372036854775808) (hal:q.all.length≤140737488355328) (hp:w.cell? ⟨g,i,none⟩=some old) (fz:w.frozen? ⟨g,i,none⟩=false) (hgF:¬ F g) (hg:G6 w E) (h:R w b F (q.dH E)) :
  Calls Tryz.prog 170 #[.pointer (some ⟨b,0,none⟩),.iface 265 (.pointer (some ⟨g,i,none⟩)),.int .i64 m] w fun e w'=>e = .returned (.tuple #[])∧∃ F' ao cap,R w' b F' ((q.go 6 m).1.dH E)∧w'.cell? ⟨g,i,none⟩=some (.slice ao (q.go 6 m).2.2.length cap)∧w'.ownsRow w.heap.size 5 1 (.slice ao (q.go 6 m).2.2.length cap) (q.go 6 m).2.2.length (cellsOf (q.go 6 m).2.2)∧(∀ k,(Value.slice ao (q.go 6 m).2.2.length cap).ownBlock=some k→¬ F' k)∧ar w w' F F' (fun k j=>k=g∧j=i):=by
 have H:=ae h
 clear h
 have t0:=Tryz.xA
 have t4:=Tryz.Cs
 have t8:=Tryz.CK
 have t11:=Tryz.AM
 have t13:=Tryz.AN
 go_enter Tryz.func170,Tryz.ntmps170
 go_wp2_with fail
 refine(rp q m b F E w hm hg.gl (aa H) hal).mono ?_
 rintro e w1 ⟨ao,cap,rfl,hown,F1,hR,hc,hno⟩
 have hp1:w1.cell? ⟨g,i,none⟩=some old:=(hc.fr.cell (p:=⟨g,i,none⟩) (ab hp) hgF).trans hp
 have fz1:w1.frozen? ⟨g,i,none⟩=false:=(hc.fr.frozen (p:=⟨g,i,none⟩) (ab hp) hgF).trans fz
 have HR:=ae (And.intro hR (And.intro hc (And.intro hown hno)))
 clear hR hc hown hno
 go_wp2_with fail
 go_end0
 obtain⟨h1,h2,h3⟩:=g9 (.slice ao (q.go 6 m).2.2.length cap) (aa HR).1 (aa HR).2.1 hp hgF
 exact⟨rfl,F1,ao,cap,h1,h2,ownsRow_setCell_below (aa HR).2.2.1 (ab hp) _,(aa HR).2.2.2,h3⟩
abbrev PS (cb b g i:Nat) (xv:Value) (w':World):Prop:=w'.cell? ⟨cb,0,none⟩=some (.pointer (some ⟨b,0,none⟩))∧w'.cell? ⟨g,i,none⟩=some xv
abbrev PR (cb b g i:Nat) (xv:Value) (w':World):Prop:=w'.cell? ⟨cb,1,none⟩=some (.pointer (some ⟨b,0,none⟩))∧w'.cell? ⟨g,i,none⟩=some xv
theorem PS.fr {cb b g i:Nat} {xv:Value} {w w':World} {S:Nat→Prop} (h:PS cb b g i xv w) (hf:Fr S w w') (h1:¬ S cb) (h2:¬ S g):PS cb b g i xv w':=
 ⟨(hf.cell (ab h.1) h1).trans h.1,(hf.cell (p:=⟨g,i,none⟩) (ab h.2) h2).trans h.2⟩
theorem PR.fr {cb b g i:Nat} {xv:Value} {w w':World} {S:Nat→Prop} (h:PR cb b g i xv w) (hf:Fr S w w') (h1:¬ S cb) (h2:¬ S g):PR cb b g i xv w':=
 ⟨(hf.cell (p:=⟨cb,1,none⟩) (ab h.1) h1).trans h.1,(hf.cell (p:=⟨g,i,none⟩) (ab h.2) h2).trans h.2⟩
theorem jL (s:Wq) (n cb b g i:Nat) (xv:Value) (F:Nat→Prop) (E:Nat→Addr) (w1 wx:World) (hS:Fr (fun _=>False) w1 wx) (h:W w1 b F (s.eA E)) (hP:PS cb b g i xv w1) (h1:¬ F cb) (h2:¬ F g) :
  Calls Tryz.prog 167 #[.pointer (some ⟨b,0,none⟩),ba E n] wx fun e w'=>e = .returned (.tuple #[])∧(∃ F',W w' b F' ((s.ah n).eA E)∧Ch w1 w' F F')∧PS cb b g i xv w':=by
 refine(yS s n b F E wx (h.frame hS (fun _ _ h=>h))).mono ?_
 rintro e w' ⟨rfl,F',hW,hc⟩
 exact⟨rfl,⟨F',hW,hc.behind hS⟩,(hP.fr hS (fun h=>h) (fun h=>h)).fr hc.fr h1 h2⟩
theorem g8 (q:Q) (n cb b g i:Nat) (xv:Value) (F:Nat→Prop) (E:Nat→Addr) (w1 wx:World) (hS:Fr (fun _=>False) w1 wx) (h:R w1 b F (q.dH E)) (hP:PR cb b g i xv w1) (h1:¬ F cb) (h2:¬ F g) :
  Calls Tryz.prog 171 #[.pointer (some ⟨b,0,none⟩),ba E n] wx fun e w'=>e = .returned (.tuple #[])∧(∃ F',R w' b F' ((q.ah n).dH E)∧Ch w1 w' F F')∧PR cb b g i xv w':=by
 refine(rG q n b F E wx (h.frame hS (fun _ _ h=>h))).mono ?_
 rintro e w' ⟨rfl,F',hR,hc⟩
 exact⟨rfl,⟨F',hR,hc.behind hS⟩,(hP.fr hS (fun h=>h) (fun h=>h)).fr hc.fr h1 h2⟩
theorem Bm (K:Nat→Prop) (rx xv:Value) (E:Nat→Addr) (rs:List (Nat→Nat)) (v:Nat) (cb b g i:Nat) (w1 wx:World) (hS:Fr (fun _=>False) w1 wx) (hR:dC dP w1 K rx E rs) (hen:dP w1 xv v) (hP:PS cb b g i xv w1) (hn:rs.length<9223372036854775808) :
  Calls Tryz.prog 168 #[rx,xv] wx fun e w'=>e = .returned (ba E (fb rs v))∧Fr (fun _=>False) w1 w'∧PS cb b g i xv w':=by
 refine(gG w1 wx K rx xv E rs v hR (fun k hk=>hS.block k (hR.lt k hk) (fun h=>h)) hS.size (hen) hn).mono ?_
 rintro e w' ⟨rfl,hf⟩
 exact⟨rfl,hS.trans hf (fun _ _ h=>h),hP.fr (hS.trans hf (fun _ _ h=>h)) (fun h=>h) (fun h=>h)⟩
theorem BG (K:Nat→Prop) (rx xv:Value) (E:Nat→Addr) (rs:List (Nat→Nat)) (v:Nat) (cb b g i:Nat) (w1 wx:World) (hS:Fr (fun _=>False) w1 wx) (hR:dC dP w1 K rx E rs) (hen:dP w1 xv v) (hP:PR cb b g i xv w1) (hn:rs.length<9223372036854775808) :
  Calls Tryz.prog 168 #[rx,xv] wx fun e w'=>e = .returned (ba E (fb rs v))∧Fr (fun _=>False) w1 w'∧PR cb b g i xv w':=by
 refine(gG w1 wx K rx xv E rs v hR (fun k hk=>hS.block k (hR.lt k hk) (fun h=>h)) hS.size (hen) hn).mono ?_
 rintro e w' ⟨rfl,hf⟩
 exact⟨rfl,hS.trans hf (fun _ _ h=>h),hP.fr (hS.trans hf (fun _ _ h=>h)) (fun h=>h) (fun h=>h)⟩
theorem zR (K:Nat→Prop) (rx xv:Value) (E:Nat→Addr) (rs:List (Nat→Nat)) (v:Nat) (cb b g i:Nat) (w1 wx:World) (hS:Fr (fun _=>False) w1 wx) (hR:dC dR w1 K rx E rs) (hen:dR w1 xv v) (hP:PS cb b g i xv w1) (hn:rs.length<9223372036854775808) :
  Calls Tryz.prog 172 #[rx,xv] wx fun e w'=>e = .returned (ba E (fb rs v))∧Fr (fun _=>False) w1 w'∧PS cb b g i xv w':=by
 refine(gj w1 wx K rx xv E rs v hR (fun k hk=>hS.block k (hR.lt k hk) (fun h=>h)) hS.size (hen) hn).mono ?_
 rintro e w' ⟨rfl,hf⟩
 exact⟨rfl,hS.trans hf (fun _ _ h=>h),hP.fr (hS.trans hf (fun _ _ h=>h)) (fun h=>h) (fun h=>h)⟩
theorem zo (K:Nat→Prop) (rx xv:Value) (E:Nat→Addr) (rs:List (Nat→Nat)) (v:Nat) (cb b g i:Nat) (w1 wx:World) (hS:Fr (fun _=>False) w1 wx) (hR:dC dR w1 K rx E rs) (hen:dR w1 xv v) (hP:PR cb b g i xv w1) (hn:rs.length<9223372036854775808) :
  Calls Tryz.prog 172 #[rx,xv] wx fun e w'=>e = .returned (ba E (fb rs v))∧Fr (fun _=>False) w1 w'∧PR cb b g i xv w':=by
 refine(gj w1 wx K rx xv E rs v hR (fun k hk=>hS.block k (hR.lt k hk) (fun h=>h)) hS.size (hen) hn).mono ?_
 rintro e w' ⟨rfl,hf⟩
 exact⟨rfl,hS.trans hf (fun _ _ h=>h),hP.fr (hS.trans hf (fun _ _ h=>h)) (fun h=>h) (fun h=>h)⟩
theorem y9 (K:Nat→Prop) (rx xv:Value) (E:Nat→Addr) (rs:List (Nat→Nat)) (v:Nat) (cb b g i:Nat) (w1 wx:World) (hS:Fr (fun _=>False) w1 wx) (hR:dC im w1 K rx E rs) (hen:im w1 xv v) (hP:PS cb b g i xv w1) (hn:rs.length<9223372036854775808) :
  Calls Tryz.prog 226 #[rx,xv] wx fun e w'=>e = .returned (ba E (fb rs v))∧Fr (fun _=>False) w1 w'∧PS cb b g i xv w':=by
 refine(gk w1 wx K rx xv E rs v hR (fun k hk=>hS.block k (hR.lt k hk) (fun h=>h)) hS.size (hen) hn).mono ?_
 rintro e w' ⟨rfl,hf⟩
 exact⟨rfl,hS.trans hf (fun _ _ h=>h),hP.fr (hS.trans hf (fun _ _ h=>h)) (fun h=>h) (fun h=>h)⟩
theorem zP (K:Nat→Prop) (rx xv:Value) (E:Nat→Addr) (rs:List (Nat→Nat)) (v:Nat) (cb b g i:Nat) (w1 wx:World) (hS:Fr (fun _=>False) w1 wx) (hR:dC im w1 K rx E rs) (hen:im w1 xv v) (hP:PR cb b g i xv w1) (hn:rs.length<9223372036854775808) :
  Calls Tryz.prog 226 #[rx,xv] wx fun e w'=>e = .returned (ba E (fb rs v))∧Fr (fun _=>False) w1 w'∧PR cb b g i xv w':=by
 refine(gk w1 wx K rx xv E rs v hR (fun k hk=>hS.block k (hR.lt k hk) (fun h=>h)) hS.size (hen) hn).mono ?_
 rintro e w' ⟨rfl,hf⟩
 exact⟨rfl,hS.trans hf (fun _ _ h=>h),hP.fr (hS.trans hf (fun _ _ h=>h)) (fun h=>h) (fun h=>h)⟩
theorem AB (K:Nat→Prop) (rx xv:Value) (E:Nat→Addr) (rs:List (Int→Nat)) (v:Int) (cb b g i:Nat) (w1 wx:World) (hS:Fr (fun _=>False) w1 wx) (hR:dC dm w1 K rx E rs) (hen:dm w1 xv v) (hP:PS cb b g i xv w1) (hn:rs.length<9223372036854775808) :
  Calls Tryz.prog 179 #[rx,xv] wx fun e w'=>e = .returned (ba E (fb rs v))∧Fr (fun _=>False) w1 w'∧PS cb b g i xv w':=by
 refine(gf w1 wx K rx xv E rs v hR (fun k hk=>hS.block k (hR.lt k hk) (fun h=>h)) hS.size (hen) hn).mono ?_
 rintro e w' ⟨rfl,hf⟩
 exact⟨rfl,hS.trans hf (fun _ _ h=>h),hP.fr (hS.trans hf (fun _ _ h=>h)) (fun h=>h) (fun h=>h)⟩
theorem zw (K:Nat→Prop) (rx xv:Value) (E:Nat→Addr) (rs:List (Int→Nat)) (v:Int) (cb b g i:Nat) (w1 wx:World) (hS:Fr (fun _=>False) w1 wx) (hR:dC dm w1 K rx E rs) (hen:dm w1 xv v) (hP:PR cb b g i xv w1) (hn:rs.length<9223372036854775808) :
  Calls Tryz.prog 179 #[rx,xv] wx fun e w'=>e = .returned (ba E (fb rs v))∧Fr (fun _=>False) w1 w'∧PR cb b g i xv w':=by
 refine(gf w1 wx K rx xv E rs v hR (fun k hk=>hS.block k (hR.lt k hk) (fun h=>h)) hS.size (hen) hn).mono ?_
 rintro e w' ⟨rfl,hf⟩
 exact⟨rfl,hS.trans hf (fun _ _ h=>h),hP.fr (hS.trans hf (fun _ _ h=>h)) (fun h=>h) (fun h=>h)⟩
theorem Ad (K:Nat→Prop) (rx xv:Value) (E:Nat→Addr) (rs:List (ByteArray→Nat)) (v:ByteArray) (cb b g i:Nat) (w1 wx:World) (hS:Fr (fun _=>False) w1 wx) (hR:dC dD w1 K rx E rs) (hen:dD w1 xv v) (hP:PS cb b g i xv w1) (hn:rs.length<9223372036854775808) :
  Calls Tryz.prog 177 #[rx,xv] wx fun e w'=>e = .returned (ba E (fb rs v))∧Fr (fun _=>False) w1 w'∧PS cb b g i xv w':=by
 refine(gi w1 wx K rx xv E rs v hR (fun k hk=>hS.block k (hR.lt k hk) (fun h=>h)) hS.size (hen) hn).mono ?_
 rintro e w' ⟨rfl,hf⟩
 exact⟨rfl,hS.trans hf (fun _ _ h=>h),hP.fr (hS.trans hf (fun _ _ h=>h)) (fun h=>h) (fun h=>h)⟩
theorem yV (K:Nat→Prop) (rx xv:Value) (E:Nat→Addr) (rs:List (ByteArray→Nat)) (v:ByteArray) (cb b g i:Nat) (w1 wx:World) (hS:Fr (fun _=>False) w1 wx) (hR:dC dD w1 K rx E rs) (hen:dD w1 xv v) (hP:PR cb b g i xv w1) (hn:rs.length<9223372036854775808) :
  Calls Tryz.prog 177 #[rx,xv] wx fun e w'=>e = .returned (ba E (fb rs v))∧Fr (fun _=>False) w1 w'∧PR cb b g i xv w':=by
 refine(gi w1 wx K rx xv E rs v hR (fun k hk=>hS.block k (hR.lt k hk) (fun h=>h)) hS.size (hen) hn).mono ?_
 rintro e w' ⟨rfl,hf⟩
 exact⟨rfl,hS.trans hf (fun _ _ h=>h),hP.fr (hS.trans hf (fun _ _ h=>h)) (fun h=>h) (fun h=>h)⟩
theorem zF (K:Nat→Prop) (rx xv:Value) (E:Nat→Addr) (rs:List ((List Nat)→Nat)) (v:(List Nat)) (cb b g i:Nat) (w1 wx:World) (hS:Fr (fun _=>False) w1 wx) (hR:dC eD w1 K rx E rs) (hen:eD w1 xv v) (hP:PS cb b g i xv w1) (hn:rs.length<9223372036854775808) :
  Calls Tryz.prog 180 #[rx,xv] wx fun e w'=>e = .returned (ba E (fb rs v))∧Fr (fun _=>False) w1 w'∧PS cb b g i xv w':=by
 refine(gm w1 wx K rx xv E rs v hR (fun k hk=>hS.block k (hR.lt k hk) (fun h=>h)) hS.size (Src.fr hen hS (fun _ _ _ _ _ h=>h)) hn).mono ?_
 rintro e w' ⟨rfl,hf⟩
 exact⟨rfl,hS.trans hf (fun _ _ h=>h),hP.fr (hS.trans hf (fun _ _ h=>h)) (fun h=>h) (fun h=>h)⟩
theorem zq (K:Nat→Prop) (rx xv:Value) (E:Nat→Addr) (rs:List ((List Nat)→Nat)) (v:(List Nat)) (cb b g i:Nat) (w1 wx:World) (hS:Fr (fun _=>False) w1 wx) (hR:dC eD w1 K rx E rs) (hen:eD w1 xv v) (hP:PR cb b g i xv w1) (hn:rs.length<9223372036854775808) :
  Calls Tryz.prog 180 #[rx,xv] wx fun e w'=>e = .returned (ba E (fb rs v))∧Fr (fun _=>False) w1 w'∧PR cb b g i xv w':=by
 refine(gm w1 wx K rx xv E rs v hR (fun k hk=>hS.block k (hR.lt k hk) (fun h=>h)) hS.size (Src.fr hen hS (fun _ _ _ _ _ h=>h)) hn).mono ?_
 rintro e w' ⟨rfl,hf⟩
 exact⟨rfl,hS.trans hf (fun _ _ h=>h),hP.fr (hS.trans hf (fun _ _ h=>h)) (fun h=>h) (fun h=>h)⟩
theorem Cd.cq {w w':World} {cb b:Nat} {F F':Nat→Prop} {s s':Wq} {E:Nat→Addr} (h:Cd w cb b F (.wr s) E) (hW:W w' b F' (s'.eA E)) (hc:Ch w w' F F') (hok:s'.ok):Cd w' cb b F' (.wr s') E:=by
 have hl:=ab h.c0
 exact⟨h.g7.fr hc.fr h.lo,fun hx=>h.nf ((hc.new cb hx).resolve_right (by simp at hl;omega)),hW.lt,hW.lo,h.cl,(hc.fr.cell (p:=⟨cb,0,none⟩) hl h.nf).trans h.c0,(hc.fr.cell (p:=⟨cb,1,none⟩) hl h.nf).trans h.c1,hW,hok⟩
theorem Cd.gR {w w':World} {cb b:Nat} {F F':Nat→Prop} {P:Nat→Nat→Prop} {q q':Q} {E:Nat→Addr} (h:Cd w cb b F (.rd q) E) (hR:R w' b F' (q'.dH E)) (hs:ar w w' F F' P) (hP:∀ k i,P k i→9≤k∧k≠cb) (hok:q'.ok) (hall:q'.all=q.all):Cd w' cb b F' (.rd q') E:=by
 have hl:=ab h.c0
 have hcb:∀ i,¬ P cb i:=fun i hx=>(hP cb i hx).2 rfl
 refine⟨h.g7.fr hs.fr (fun k hk=>hk.elim (h.lo k) (fun ⟨i,hi⟩=>(hP k i hi).1)),hs.nF hl h.nf,hR.lt,hR.lo,h.cl,(hs.oth cb 0 hl h.nf (hcb 0)).trans h.c0,(hs.oth cb 1 hl h.nf (hcb 1)).trans h.c1,⟨hR,hok,?_⟩,trivial⟩
 rw[hall]
 exact(show R w b F (q.dH E)∧q.ok∧q.all.length≤140737488355328 from h.st).2.2
theorem Q.dj (q:Q) (n:Nat):(q.ah n).all=q.all:=by unfold Q.ah;split <;> rfl
theorem vA (s:Wq) (nm:ByteArray) (rs:List (Nat→Nat)) (v:Nat) (m:Int) (cb b g i:Nat) (F K:Nat→Prop) (E:Nat→Addr) (rx:Value) (w:World) (h:Cd w cb b F (.wr s) E) (hp:w.cell? ⟨g,i,none⟩=some (.int .u8 (v:Nat))) (hv:v<256) (hgF:¬ F g) (hR:dC dP w K rx E rs) (hK:∀ k,K k→¬ F k) (hn:rs.length<9223372036854775808) (hl:fb rs v=0→s.l.length+(1)≤140737488355328) :
  Calls Tryz.prog 148 #[.pointer (some ⟨cb,0,none⟩),.string nm,.pointer (some ⟨g,i,none⟩),.int .i64 m,rx] w fun e w'=>e = .returned (.tuple #[])∧∃ F',Cd w' cb b F' (.wr (((s.named nm).ah (fb rs v)).bP (be 1 v))) E∧Ch w w' F F':=by
 have hc0:w.cell? ⟨cb,0,none⟩=some (.pointer (some ⟨b,0,none⟩)):=h.c0
 have H:=ae (And.intro h (And.intro hR hK))
 have HL:=ae hl
 clear h hR hK hl
 obtain⟨xo,xc,rfl⟩:=(aa H).2.1.form
 go_enter Tryz.func148,Tryz.ntmps148
 go_wp2_with fail
 refine(ic s nm b F E w (aa H).1.st).mono ?_
 rintro e w1 ⟨rfl,hW1,hch1⟩
 have hP1:PS cb b g i (.int .u8 (v:Nat)) w1:=PS.fr ⟨hc0,hp⟩ hch1.fr (aa H).1.nf hgF
 have hc1:=hP1.1
 have hp1:=hP1.2
 have hR1:=(aa H).2.1.fr hch1.fr (aa H).2.2
 have hS0:Fr (fun _=>False) w1 w1:=Fr.refl _ _
 have H1:=ae (And.intro hW1 (And.intro hch1 (And.intro hR1 hP1)))
 clear hW1 hch1 hR1 hP1
 go_wp2_with fail
 go_region_held3 (fun w'=>PS cb b g i (.int .u8 (v:Nat)) w') (first|assumption|exact⟨hc1,hp1⟩|(refine⟨?_,?_⟩ <;> (simp only[World.cell?_drew,World.cell?_drewN] at *;assumption))) (first
  | (go_at_call 168;refine(Bm K _ _ E rs v cb b g i w1 _ (by first|assumption|exact Fr.drew (by assumption)) (aa H1).2.2.1 ⟨rfl,hv⟩ (aa H1).2.2.2 hn).mono ?_;rintro e w2 ⟨rfl,hS2,hP2⟩)
  | (go_at_call 167;refine(jL _ _ cb b g i _ F E w1 _ (by first|assumption|exact Fr.drew (by assumption)) (aa H1).1 (aa H1).2.2.2 (aa H).1.nf hgF).mono ?_;rintro e w3 ⟨rfl,hS3,hP3⟩))
 have hc3:=hP3.1
 have hp3:=hP3.2
 obtain⟨F3,hW3,hch3⟩:=hS3
 have hok3:((s.named nm).ah (fb rs v)).ok:=Wq.bH (Wq.bt (show s.ok from(aa H).1.ot) nm) ((aa H).2.1.le v)
 have hC3:=((aa H).1.cq (aa H1).1 (aa H1).2.1 (show s.ok from(aa H).1.ot)).cq hW3 hch3 hok3
 have hLL:=Bp ((s.named nm).ah (fb rs v)) v m ⟨g,i,none⟩ b F3 E w3 hp3 hv hW3 (fun e=>by rw[Wq.cS];exact(aa HL) (Wq.fq e))
 have HX:=ae (And.intro hLL (And.intro hC3 hch3))
 clear hLL hC3 hch3 hW3 hP3 hP2 hS2
 go_wp2_with fail
 refine(aa HX).1.mono ?_
 rintro e w4 ⟨rfl,F4,hW4,hch4⟩
 have HY:=ae (And.intro hW4 hch4)
 clear hW4 hch4
 go_wp2_with fail
 first|go_end0|((try simp only[Exit.inBlock,Exit.then]);refine bodyPost_ret (results_none rfl _ _ _) rfl ?_)
 exact⟨rfl,F4,(aa HX).2.1.cq (aa HY).1 (aa HY).2 (Wq.kP hok3 _),((aa H1).2.1.trans (aa HX).2.2).trans (aa HY).2⟩
theorem tM (s:Wq) (nm:ByteArray) (rs:List (Nat→Nat)) (v:Nat) (m:Int) (cb b g i:Nat) (F K:Nat→Prop) (E:Nat→Addr) (rx:Value) (w:World) (h:Cd w cb b F (.wr s) E) (hp:w.cell? ⟨g,i,none⟩=some (.int .u32 (v:Nat))) (hv:v<4294967296) (hgF:¬ F g) (hR:dC dR w K rx E rs) (hK:∀ k,K k→¬ F k) (hn:rs.length<9223372036854775808) (hl:fb rs v=0→s.l.length+(4)≤140737488355328) :
  Calls Tryz.prog 150 #[.pointer (some ⟨cb,0,none⟩),.string nm,.pointer (some ⟨g,i,none⟩),.int .i64 m,rx] w fun e w'=>e = .returned (.tuple #[])∧∃ F',Cd w' cb b F' (.wr (((s.named nm).ah (fb rs v)).bP (be 4 v))) E∧Ch w w' F F':=by
 have hc0:w.cell? ⟨cb,0,none⟩=some (.pointer (some ⟨b,0,none⟩)):=h.c0
 have H:=ae (And.intro h (And.intro hR hK))
 have HL:=ae hl
 clear h hR hK hl
 obtain⟨xo,xc,rfl⟩:=(aa H).2.1.form
 go_enter Tryz.func150,Tryz.ntmps150
 go_wp2_with fail
 refine(ic s nm b F E w (aa H).1.st).mono ?_
 rintro e w1 ⟨rfl,hW1,hch1⟩
 have hP1:PS cb b g i (.int .u32 (v:Nat)) w1:=PS.fr ⟨hc0,hp⟩ hch1.fr (aa H).1.nf hgF
 have hc1:=hP1.1
 have hp1:=hP1.2
 have hR1:=(aa H).2.1.fr hch1.fr (aa H).2.2
 have hS0:Fr (fun _=>False) w1 w1:=Fr.refl _ _
 have H1:=ae (And.intro hW1 (And.intro hch1 (And.intro hR1 hP1)))
 clear hW1 hch1 hR1 hP1
 go_wp2_with fail
 go_region_held3 (fun w'=>PS cb b g i (.int .u32 (v:Nat)) w') (first|assumption|exact⟨hc1,hp1⟩|(refine⟨?_,?_⟩ <;> (simp only[World.cell?_drew,World.cell?_drewN] at *;assumption))) (first
  | (go_at_call 172;refine(zR K _ _ E rs v cb b g i w1 _ (by first|assumption|exact Fr.drew (by assumption)) (aa H1).2.2.1 ⟨rfl,hv⟩ (aa H1).2.2.2 hn).mono ?_;rintro e w2 ⟨rfl,hS2,hP2⟩)
  | (go_at_call 167;refine(jL _ _ cb b g i _ F E w1 _ (by first|assumption|exact Fr.drew (by assumption)) (aa H1).1 (aa H1).2.2.2 (aa H).1.nf hgF).mono ?_;rintro e w3 ⟨rfl,hS3,hP3⟩))
 have hc3:=hP3.1
 have hp3:=hP3.2
 obtain⟨F3,hW3,hch3⟩:=hS3
 have hok3:((s.named nm).ah (fb rs v)).ok:=Wq.bH (Wq.bt (show s.ok from(aa H).1.ot) nm) ((aa H).2.1.le v)
 have hC3:=((aa H).1.cq (aa H1).1 (aa H1).2.1 (show s.ok from(aa H).1.ot)).cq hW3 hch3 hok3
 have hLL:=zZ ((s.named nm).ah (fb rs v)) v m ⟨g,i,none⟩ b F3 E w3 hp3 hv hW3 (fun e=>by rw[Wq.cS];exact(aa HL) (Wq.fq e))
 have HX:=ae (And.intro hLL (And.intro hC3 hch3))
 clear hLL hC3 hch3 hW3 hP3 hP2 hS2
 go_wp2_with fail
 refine(aa HX).1.mono ?_
 rintro e w4 ⟨rfl,F4,hW4,hch4⟩
 have HY:=ae (And.intro hW4 hch4)
 clear hW4 hch4
 go_wp2_with fail
 first|go_end0|((try simp only[Exit.inBlock,Exit.then]);refine bodyPost_ret (results_none rfl _ _ _) rfl ?_)
 exact⟨rfl,F4,(aa HX).2.1.cq (aa HY).1 (aa HY).2 (Wq.kP hok3 _),((aa H1).2.1.trans (aa HX).2.2).trans (aa HY).2⟩
theorem sL (s:Wq) (nm:ByteArray) (rs:List (Nat→Nat)) (v:Nat) (m:Int) (cb b g i:Nat) (F K:Nat→Prop) (E:Nat→Addr) (rx:Value) (w:World) (h:Cd w cb b F (.wr s) E) (hp:w.cell? ⟨g,i,none⟩=some (.float .f32 v)) (hv:v<4294967296) (hgF:¬ F g) (hR:dC im w K rx E rs) (hK:∀ k,K k→¬ F k) (hn:rs.length<9223372036854775808) (hl:fb rs v=0→s.l.length+(4)≤140737488355328) :
  Calls Tryz.prog 199 #[.pointer (some ⟨cb,0,none⟩),.string nm,.pointer (some ⟨g,i,none⟩),.int .i64 m,rx] w fun e w'=>e = .returned (.tuple #[])∧∃ F',Cd w' cb b F' (.wr (((s.named nm).ah (fb rs v)).lS v)) E∧Ch w w' F F':=by
 have hc0:w.cell? ⟨cb,0,none⟩=some (.pointer (some ⟨b,0,none⟩)):=h.c0
 have H:=ae (And.intro h (And.intro hR hK))
 have HL:=ae hl
 clear h hR hK hl
 obtain⟨xo,xc,rfl⟩:=(aa H).2.1.form
 go_enter Tryz.func199,Tryz.ntmps199
 go_wp2_with fail
 refine(ic s nm b F E w (aa H).1.st).mono ?_
 rintro e w1 ⟨rfl,hW1,hch1⟩
 have hP1:PS cb b g i (.float .f32 v) w1:=PS.fr ⟨hc0,hp⟩ hch1.fr (aa H).1.nf hgF
 have hc1:=hP1.1
 have hp1:=hP1.2
 have hR1:=(aa H).2.1.fr hch1.fr (aa H).2.2
 have hS0:Fr (fun _=>False) w1 w1:=Fr.refl _ _
 have H1:=ae (And.intro hW1 (And.intro hch1 (And.intro hR1 hP1)))
 clear hW1 hch1 hR1 hP1
 go_wp2_with fail
 go_region_held3 (fun w'=>PS cb b g i (.float .f32 v) w') (first|assumption|exact⟨hc1,hp1⟩|(refine⟨?_,?_⟩ <;> (simp only[World.cell?_drew,World.cell?_drewN] at *;assumption))) (first
  | (go_at_call 226;refine(y9 K _ _ E rs v cb b g i w1 _ (by first|assumption|exact Fr.drew (by assumption)) (aa H1).2.2.1 ⟨rfl,hv⟩ (aa H1).2.2.2 hn).mono ?_;rintro e w2 ⟨rfl,hS2,hP2⟩)
  | (go_at_call 167;refine(jL _ _ cb b g i _ F E w1 _ (by first|assumption|exact Fr.drew (by assumption)) (aa H1).1 (aa H1).2.2.2 (aa H).1.nf hgF).mono ?_;rintro e w3 ⟨rfl,hS3,hP3⟩))
 have hc3:=hP3.1
 have hp3:=hP3.2
 obtain⟨F3,hW3,hch3⟩:=hS3
 have hok3:((s.named nm).ah (fb rs v)).ok:=Wq.bH (Wq.bt (show s.ok from(aa H).1.ot) nm) ((aa H).2.1.le v)
 have hC3:=((aa H).1.cq (aa H1).1 (aa H1).2.1 (show s.ok from(aa H).1.ot)).cq hW3 hch3 hok3
 have hLL:=AH ((s.named nm).ah (fb rs v)) v m ⟨g,i,none⟩ b F3 E w3 hp3 hv hC3.g7 hW3 (fun e=>by rw[Wq.cS];exact(aa HL) (Wq.fq e))
 have HX:=ae (And.intro hLL (And.intro hC3 hch3))
 clear hLL hC3 hch3 hW3 hP3 hP2 hS2
 go_wp2_with fail
 refine(aa HX).1.mono ?_
 rintro e w4 ⟨rfl,F4,hW4,hch4⟩
 have HY:=ae (And.intro hW4 hch4)
 clear hW4 hch4
 go_wp2_with fail
 first|go_end0|((try simp only[Exit.inBlock,Exit.then]);refine bodyPost_ret (results_none rfl _ _ _) rfl ?_)
 exact⟨rfl,F4,(aa HX).2.1.cq (aa HY).1 (aa HY).2 (Wq.BT hok3 _),((aa H1).2.1.trans (aa HX).2.2).trans (aa HY).2⟩
theorem rO (s:Wq) (nm:ByteArray) (rs:List (ByteArray→Nat)) (v:ByteArray) (m:Int) (cb b g i:Nat) (F K:Nat→Prop) (E:Nat→Addr) (rx:Value) (w:World) (h:Cd w cb b F (.wr s) E) (hp:w.cell? ⟨g,i,none⟩=some (.string v)) (hv:v.size<9223372036854775808) (hgF:¬ F g) (hR:dC dD w K rx E rs) (hK:∀ k,K k→¬ F k) (hn:rs.length<9223372036854775808) (hl:fb rs v=0→s.l.length+(4+v.size)≤140737488355328) :
  Calls Tryz.prog 157 #[.pointer (some ⟨cb,0,none⟩),.string nm,.pointer (some ⟨g,i,none⟩),.int .i64 m,rx] w fun e w'=>e = .returned (.tuple #[])∧∃ F',Cd w' cb b F' (.wr (((s.named nm).ah (fb rs v)).gp v.size m (be 4 v.size++bytesOf v))) E∧Ch w w' F F':=by
 have hc0:w.cell? ⟨cb,0,none⟩=some (.pointer (some ⟨b,0,none⟩)):=h.c0
 have H:=ae (And.intro h (And.intro hR hK))
 have HL:=ae hl
 clear h hR hK hl
 obtain⟨xo,xc,rfl⟩:=(aa H).2.1.form
 go_enter Tryz.func157,Tryz.ntmps157
 go_wp2_with fail
 refine(ic s nm b F E w (aa H).1.st).mono ?_
 rintro e w1 ⟨rfl,hW1,hch1⟩
 have hP1:PS cb b g i (.string v) w1:=PS.fr ⟨hc0,hp⟩ hch1.fr (aa H).1.nf hgF
 have hc1:=hP1.1
 have hp1:=hP1.2
 have hR1:=(aa H).2.1.fr hch1.fr (aa H).2.2
 have hS0:Fr (fun _=>False) w1 w1:=Fr.refl _ _
 have H1:=ae (And.intro hW1 (And.intro hch1 (And.intro hR1 hP1)))
 clear hW1 hch1 hR1 hP1
 go_wp2_with fail
 go_region_held3 (fun w'=>PS cb b g i (.string v) w') (first|assumption|exact⟨hc1,hp1⟩|(refine⟨?_,?_⟩ <;> (simp only[World.cell?_drew,World.cell?_drewN] at *;assumption))) (first
  | (go_at_call 177;refine(Ad K _ _ E rs v cb b g i w1 _ (by first|assumption|exact Fr.drew (by assumption)) (aa H1).2.2.1 rfl (aa H1).2.2.2 hn).mono ?_;rintro e w2 ⟨rfl,hS2,hP2⟩)
  | (go_at_call 167;refine(jL _ _ cb b g i _ F E w1 _ (by first|assumption|exact Fr.drew (by assumption)) (aa H1).1 (aa H1).2.2.2 (aa H).1.nf hgF).mono ?_;rintro e w3 ⟨rfl,hS3,hP3⟩))
 have hc3:=hP3.1
 have hp3:=hP3.2
 obtain⟨F3,hW3,hch3⟩:=hS3
 have hok3:((s.named nm).ah (fb rs v)).ok:=Wq.bH (Wq.bt (show s.ok from(aa H).1.ot) nm) ((aa H).2.1.le v)
 have hC3:=((aa H).1.cq (aa H1).1 (aa H1).2.1 (show s.ok from(aa H).1.ot)).cq hW3 hch3 hok3
 have hLL:=za ((s.named nm).ah (fb rs v)) v m ⟨g,i,none⟩ b F3 E w3 hp3 hv hC3.g7 hW3 (fun e=>by rw[Wq.cS];exact(aa HL) (Wq.fq e))
 have HX:=ae (And.intro hLL (And.intro hC3 hch3))
 clear hLL hC3 hch3 hW3 hP3 hP2 hS2
 go_wp2_with fail
 refine(aa HX).1.mono ?_
 rintro e w4 ⟨rfl,F4,hW4,hch4⟩
 have HY:=ae (And.intro hW4 hch4)
 clear hW4 hch4
 go_wp2_with fail
 first|go_end0|((try simp only[Exit.inBlock,Exit.then]);refine bodyPost_ret (results_none rfl _ _ _) rfl ?_)
 exact⟨rfl,F4,(aa HX).2.1.cq (aa HY).1 (aa HY).2 (Wq.tH hok3 _ _ _),((aa H1).2.1.trans (aa HX).2.2).trans (aa HY).2⟩
theorem sK (s:Wq) (nm:ByteArray) (rs:List (Int→Nat)) (v:Int) (m:Int) (cb b g i:Nat) (F K:Nat→Prop) (E:Nat→Addr) (rx:Value) (w:World) (h:Cd w cb b F (.wr s) E) (hp:w.cell? ⟨g,i,none⟩=some (.int .i64 v)) (hv:v<9223372036854775808) (hgF:¬ F g) (hR:dC dm w K rx E rs) (hK:∀ k,K k→¬ F k) (hn:rs.length<9223372036854775808) (hl:fb rs v=0→s.l.length+(4)≤140737488355328) :
  Calls Tryz.prog 159 #[.pointer (some ⟨cb,0,none⟩),.string nm,.pointer (some ⟨g,i,none⟩),.int .i64 m,rx] w fun e w'=>e = .returned (.tuple #[])∧∃ F',Cd w' cb b F' (.wr (((s.named nm).ah (fb rs v)).kI v m)) E∧Ch w w' F F':=by
 have hc0:w.cell? ⟨cb,0,none⟩=some (.pointer (some ⟨b,0,none⟩)):=h.c0
 have H:=ae (And.intro h (And.intro hR hK))
 have HL:=ae hl
 clear h hR hK hl
 obtain⟨xo,xc,rfl⟩:=(aa H).2.1.form
 go_enter Tryz.func159,Tryz.ntmps159
 go_wp2_with fail
 refine(ic s nm b F E w (aa H).1.st).mono ?_
 rintro e w1 ⟨rfl,hW1,hch1⟩
 have hP1:PS cb b g i (.int .i64 v) w1:=PS.fr ⟨hc0,hp⟩ hch1.fr (aa H).1.nf hgF
 have hc1:=hP1.1
 have hp1:=hP1.2
 have hR1:=(aa H).2.1.fr hch1.fr (aa H).2.2
 have hS0:Fr (fun _=>False) w1 w1:=Fr.refl _ _
 have H1:=ae (And.intro hW1 (And.intro hch1 (And.intro hR1 hP1)))
 clear hW1 hch1 hR1 hP1
 go_wp2_with fail
 go_region_held3 (fun w'=>PS cb b g i (.int .i64 v) w') (first|assumption|exact⟨hc1,hp1⟩|(refine⟨?_,?_⟩ <;> (simp only[World.cell?_drew,World.cell?_drewN] at *;assumption))) (first
  | (go_at_call 179;refine(AB K _ _ E rs v cb b g i w1 _ (by first|assumption|exact Fr.drew (by assumption)) (aa H1).2.2.1 rfl (aa H1).2.2.2 hn).mono ?_;rintro e w2 ⟨rfl,hS2,hP2⟩)
  | (go_at_call 167;refine(jL _ _ cb b g i _ F E w1 _ (by first|assumption|exact Fr.drew (by assumption)) (aa H1).1 (aa H1).2.2.2 (aa H).1.nf hgF).mono ?_;rintro e w3 ⟨rfl,hS3,hP3⟩))
 have hc3:=hP3.1
 have hp3:=hP3.2
 obtain⟨F3,hW3,hch3⟩:=hS3
 have hok3:((s.named nm).ah (fb rs v)).ok:=Wq.bH (Wq.bt (show s.ok from(aa H).1.ot) nm) ((aa H).2.1.le v)
 have hC3:=((aa H).1.cq (aa H1).1 (aa H1).2.1 (show s.ok from(aa H).1.ot)).cq hW3 hch3 hok3
 have hLL:=zV ((s.named nm).ah (fb rs v)) v m ⟨g,i,none⟩ b F3 E w3 hp3 hv hC3.g7 hW3 (fun e=>by rw[Wq.cS];exact(aa HL) (Wq.fq e))
 have HX:=ae (And.intro hLL (And.intro hC3 hch3))
 clear hLL hC3 hch3 hW3 hP3 hP2 hS2
 go_wp2_with fail
 refine(aa HX).1.mono ?_
 rintro e w4 ⟨rfl,F4,hW4,hch4⟩
 have HY:=ae (And.intro hW4 hch4)
 clear hW4 hch4
 go_wp2_with fail
 first|go_end0|((try simp only[Exit.inBlock,Exit.then]);refine bodyPost_ret (results_none rfl _ _ _) rfl ?_)
 exact⟨rfl,F4,(aa HX).2.1.cq (aa HY).1 (aa HY).2 (Wq.Bw hok3 _ _),((aa H1).2.1.trans (aa HX).2.2).trans (aa HY).2⟩
theorem rE (s:Wq) (nm:ByteArray) (rs:List (List Nat→Nat)) (x:Value) (v:List Nat) (m:Int) (cb b g i:Nat) (F K:Nat→Prop) (E:Nat→Addr) (rx:Value) (w:World) (h:Cd w cb b F (.wr s) E) (hp:w.cell? ⟨g,i,none⟩=some x) (hsrc:Src w x v) (nx:∀ g o m c,x = .slice (some ⟨g,o,none⟩) m c→g<w.heap.size∧¬ F g) (hv:v.length<9223372036854775808) (hgF:¬ F g) (hR:dC eD w K rx E rs) (hK:∀ k,K k→¬ F k) (hn:rs.length<9223372036854775808) (hl:fb rs v=0→s.l.length+(4+v.length)≤140737488355328) :
  Calls Tryz.prog 160 #[.pointer (some ⟨cb,0,none⟩),.string nm,.pointer (some ⟨g,i,none⟩),.int .i64 m,rx] w fun e w'=>e = .returned (.tuple #[])∧∃ F',Cd w' cb b F' (.wr (((s.named nm).ah (fb rs v)).gp v.length m (be 4 v.length++v))) E∧Ch w w' F F':=by
 have hc0:w.cell? ⟨cb,0,none⟩=some (.pointer (some ⟨b,0,none⟩)):=h.c0
 have H:=ae (And.intro h (And.intro hR hK))
 have HL:=ae (And.intro hl (And.intro hsrc nx))
 clear h hR hK hl nx
 obtain⟨yo,yc,rfl⟩:=hsrc.form
 clear hsrc
 obtain⟨xo,xc,rfl⟩:=(aa H).2.1.form
 go_enter Tryz.func160,Tryz.ntmps160
 go_wp2_with fail
 refine(ic s nm b F E w (aa H).1.st).mono ?_
 rintro e w1 ⟨rfl,hW1,hch1⟩
 have hP1:PS cb b g i (.slice yo v.length yc) w1:=PS.fr ⟨hc0,hp⟩ hch1.fr (aa H).1.nf hgF
 have hc1:=hP1.1
 have hp1:=hP1.2
 have hR1:=(aa H).2.1.fr hch1.fr (aa H).2.2
 have hS1:Src w1 (.slice yo v.length yc) v:=(aa HL).2.1.fr hch1.fr (fun g o m c e=>((aa HL).2.2 g o m c e).2)
 have hS0:Fr (fun _=>False) w1 w1:=Fr.refl _ _
 have H1:=ae (And.intro hW1 (And.intro hch1 (And.intro hR1 (And.intro hP1 hS1))))
 clear hW1 hch1 hR1 hP1 hS1
 go_wp2_with fail
 go_region_held3 (fun w'=>PS cb b g i (.slice yo v.length yc) w') (first|assumption|exact⟨hc1,hp1⟩|(refine⟨?_,?_⟩ <;> (simp only[World.cell?_drew,World.cell?_drewN] at *;assumption))) (first
  | (go_at_call 180;refine(zF K _ _ E rs v cb b g i w1 _ (by first|assumption|exact Fr.drew (by assumption)) (aa H1).2.2.1 (aa H1).2.2.2.2 (aa H1).2.2.2.1 hn).mono ?_;rintro e w2 ⟨rfl,hS2,hP2⟩)
  | (go_at_call 167;refine(jL _ _ cb b g i _ F E w1 _ (by first|assumption|exact Fr.drew (by assumption)) (aa H1).1 (aa H1).2.2.2.1 (aa H).1.nf hgF).mono ?_;rintro e w3 ⟨rfl,hS3,hP3⟩))
 have hc3:=hP3.1
 have hp3:=hP3.2
 obtain⟨F3,hW3,hch3⟩:=hS3
 have hok3:((s.named nm).ah (fb rs v)).ok:=Wq.bH (Wq.bt (show s.ok from(aa H).1.ot) nm) ((aa H).2.1.le v)
 have hC3:=((aa H).1.cq (aa H1).1 (aa H1).2.1 (show s.ok from(aa H).1.ot)).cq hW3 hch3 hok3
 have hch13:=(aa H1).2.1.trans hch3
 have hLL:=zJ ((s.named nm).ah (fb rs v)) _ v m ⟨g,i,none⟩ b F3 E w3 hp3 ((aa HL).2.1.fr hch13.fr (fun g o m c e=>((aa HL).2.2 g o m c e).2)) (fun g o m c e hx=>by
  have h1:=(aa HL).2.2 g o m c e
  rcases hch13.new g hx with h2|h2
  ·exact h1.2 h2
  ·omega) hv hC3.g7 hW3 (fun e=>by rw[Wq.cS];exact(aa HL).1 (Wq.fq e))
 have HX:=ae (And.intro hLL (And.intro hC3 hch3))
 clear hLL hC3 hch3 hW3 hP3 hP2 hS2 hch13
 go_wp2_with fail
 refine(aa HX).1.mono ?_
 rintro e w4 ⟨rfl,F4,hW4,hch4⟩
 have HY:=ae (And.intro hW4 hch4)
 clear hW4 hch4
 go_wp2_with fail
 first|go_end0|((try simp only[Exit.inBlock,Exit.then]);refine bodyPost_ret (results_none rfl _ _ _) rfl ?_)
 exact⟨rfl,F4,(aa HX).2.1.cq (aa HY).1 (aa HY).2 (Wq.tH hok3 _ _ _),((aa H1).2.1.trans (aa HX).2.2).trans (aa HY).2⟩
theorem vk (q:Q) (nm:ByteArray) (rs:List (Nat→Nat)) (old:Value) (m:Int) (cb b g i:Nat) (F K:Nat→Prop) (E:Nat→Addr) (rx:Value) (w:World) (h:Cd w cb b F (.rd q) E) (hp:w.cell? ⟨g,i,none⟩=some old) (fz:w.frozen? ⟨g,i,none⟩=false) (hv:((q.named nm).go 1 0).2.1<256) (hgF:¬ F g) (hgc:g≠cb) (hgl:9≤g) (hR:dC dP w K rx E rs) (hK:∀ k,K k→¬ F k∧k≠g) (hn:rs.length<9223372036854775808) :
  Calls Tryz.prog 148 #[.pointer (some ⟨cb,0,none⟩),.string nm,.pointer (some ⟨g,i,none⟩),.int .i64 m,rx] w fun e w'=>e = .returned (.tuple #[])∧∃ F',Cd w' cb b F' (.rd (((q.named nm).go 1 0).1.ah (fb rs ((q.named nm).go 1 0).2.1))) E∧w'.cell? ⟨g,i,none⟩=some (.int .u8 (((q.named nm).go 1 0).2.1:Nat))∧ar w w' F F' (fun k j=>k=g∧j=i):=by
 have hc0:w.cell? ⟨cb,0,none⟩=some (.pointer none):=h.c0
 have hc1:w.cell? ⟨cb,1,none⟩=some (.pointer (some ⟨b,0,none⟩)):=h.c1
 have hst:R w b F (q.dH E)∧q.ok∧q.all.length≤140737488355328:=h.st
 have H:=ae (And.intro h (And.intro hR (And.intro hK hst)))
 clear h hR hK hst
 obtain⟨xo,xc,rfl⟩:=(aa H).2.1.form
 go_enter Tryz.func148,Tryz.ntmps148
 go_wp2_with fail
 refine(cm q nm b F E w (aa H).2.2.2.1).mono ?_
 rintro e w1 ⟨rfl,hR1,hch1⟩
 have hc1':w1.cell? ⟨cb,1,none⟩=some (.pointer (some ⟨b,0,none⟩)):=(hch1.fr.cell (p:=⟨cb,1,none⟩) (ab hc1) (aa H).1.nf).trans hc1
 have hp1:w1.cell? ⟨g,i,none⟩=some old:=(hch1.fr.cell (p:=⟨g,i,none⟩) (ab hp) hgF).trans hp
 have fz1:w1.frozen? ⟨g,i,none⟩=false:=(hch1.fr.frozen (p:=⟨g,i,none⟩) (ab hp) hgF).trans fz
 have H1:=ae (And.intro hR1 hch1)
 clear hR1 hch1
 go_wp2_with fail
 refine(Ab (q.named nm) m g i old b F E w1  hp1 fz1 hgF ((aa H).1.g7.fr (aa H1).2.fr (aa H).1.lo) (aa H1).1).mono ?_
 rintro e w2 ⟨rfl,F2,hR2,hp2,hs2⟩
 have hs12:ar w w2 F F2 (fun k j=>k=g∧j=i):=(ar.cY (aa H1).2 _).trans hs2 (fun _ _ _ h=>h)
 have hlc:=ab hc1
 have hc2:w2.cell? ⟨cb,1,none⟩=some (.pointer (some ⟨b,0,none⟩)):=(hs12.oth cb 1 hlc (aa H).1.nf (fun h=>hgc h.1.symm)).trans hc1
 have hRu:=(aa H).2.1.mono hs12.size (fun k hk=>hs12.block ((aa H).2.1.lt k hk) ((aa H).2.2.1 k hk).1 (fun j h=>((aa H).2.2.1 k hk).2 h.1))
 have hS0:Fr (fun _=>False) w2 w2:=Fr.refl _ _
 have hP2:PR cb b g i (.int .u8 (((q.named nm).go 1 0).2.1:Nat)) w2:=⟨hc2,hp2⟩
 have hncb:=hs12.nF hlc (aa H).1.nf
 have hng:=hs12.nF (ab hp) hgF
 have H2:=ae (And.intro hR2 (And.intro hs12 (And.intro hRu (And.intro hP2 (And.intro hncb hng)))))
 clear hR2 hs2 hs12 hRu hP2 hncb hng
 go_wp2_with fail
 go_region_held3 (fun w'=>PR cb b g i (.int .u8 (((q.named nm).go 1 0).2.1:Nat)) w') (first|assumption|exact⟨hc2,hp2⟩|(refine⟨?_,?_⟩ <;> (simp only[World.cell?_drew,World.cell?_drewN] at *;assumption))) (first
  | (go_at_call 168;refine(BG K _ _ E rs ((q.named nm).go 1 0).2.1 cb b g i w2 _ (by first|assumption|exact Fr.drew (by assumption)) (aa H2).2.2.1 ⟨rfl,hv⟩ (aa H2).2.2.2.1 hn).mono ?_;rintro e w3 ⟨rfl,hS3,hP3⟩)
  | (go_at_call 171;refine(g8 _ _ cb b g i _ F2 E w2 _ (by first|assumption|exact Fr.drew (by assumption)) (aa H2).1 (aa H2).2.2.2.1 (aa H2).2.2.2.2.1 (aa H2).2.2.2.2.2).mono ?_;rintro e w4 ⟨rfl,hS4,hP4⟩))
 obtain⟨F4,hR4,hch4⟩:=hS4
 have hp4:=hP4.2
 have H4:=ae (And.intro hR4 hch4)
 clear hR4 hch4 hS3 hP3 hP4
 go_wp2_with fail
 first|go_end0|((try simp only[Exit.inBlock,Exit.then]);refine bodyPost_ret (results_none rfl _ _ _) rfl ?_)
 have hs4:ar w w4 F F4 (fun k j=>k=g∧j=i):=(aa H2).2.1.trans (ar.cY (aa H4).2 _) (fun _ _ _ h=>h)
 refine⟨rfl,F4,(aa H).1.gR (aa H4).1 hs4 (fun k j h=>by rw[h.1];exact⟨hgl,hgc⟩) (Q.bH (Q.go_ok (Q.bt (aa H).2.2.2.2.1 nm) _ _) _ ((aa H).2.1.le _)) ?_,hp4,hs4⟩
 rw[Q.dj,Q.go_all]
 rfl
theorem sw (q:Q) (nm:ByteArray) (rs:List (Nat→Nat)) (old:Value) (m:Int) (cb b g i:Nat) (F K:Nat→Prop) (E:Nat→Addr) (rx:Value) (w:World) (h:Cd w cb b F (.rd q) E) (hp:w.cell? ⟨g,i,none⟩=some old) (fz:w.frozen? ⟨g,i,none⟩=false) (hv:((q.named nm).go 4 0).2.1<4294967296) (hgF:¬ F g) (hgc:g≠cb) (hgl:9≤g) (hR:dC dR w K rx E rs) (hK:∀ k,K k→¬ F k∧k≠g) (hn:rs.length<9223372036854775808) :
  Calls Tryz.prog 150 #[.pointer (some ⟨cb,0,none⟩),.string nm,.pointer (some ⟨g,i,none⟩),.int .i64 m,rx] w fun e w'=>e = .returned (.tuple #[])∧∃ F',Cd w' cb b F' (.rd (((q.named nm).go 4 0).1.ah (fb rs ((q.named nm).go 4 0).2.1))) E∧w'.cell? ⟨g,i,none⟩=some (.int .u32 (((q.named nm).go 4 0).2.1:Nat))∧ar w w' F F' (fun k j=>k=g∧j=i):=by
 have hc0:w.cell? ⟨cb,0,none⟩=some (.pointer none):=h.c0
 have hc1:w.cell? ⟨cb,1,none⟩=some (.pointer (some ⟨b,0,none⟩)):=h.c1
 have hst:R w b F (q.dH E)∧q.ok∧q.all.length≤140737488355328:=h.st
 have H:=ae (And.intro h (And.intro hR (And.intro hK hst)))
 clear h hR hK hst
 obtain⟨xo,xc,rfl⟩:=(aa H).2.1.form
 go_enter Tryz.func150,Tryz.ntmps150
 go_wp2_with fail
 refine(cm q nm b F E w (aa H).2.2.2.1).mono ?_
 rintro e w1 ⟨rfl,hR1,hch1⟩
 have hc1':w1.cell? ⟨cb,1,none⟩=some (.pointer (some ⟨b,0,none⟩)):=(hch1.fr.cell (p:=⟨cb,1,none⟩) (ab hc1) (aa H).1.nf).trans hc1
 have hp1:w1.cell? ⟨g,i,none⟩=some old:=(hch1.fr.cell (p:=⟨g,i,none⟩) (ab hp) hgF).trans hp
 have fz1:w1.frozen? ⟨g,i,none⟩=false:=(hch1.fr.frozen (p:=⟨g,i,none⟩) (ab hp) hgF).trans fz
 have H1:=ae (And.intro hR1 hch1)
 clear hR1 hch1
 go_wp2_with fail
 refine(xX (q.named nm) m g i old b F E w1  hp1 fz1 hgF ((aa H).1.g7.fr (aa H1).2.fr (aa H).1.lo) (aa H1).1).mono ?_
 rintro e w2 ⟨rfl,F2,hR2,hp2,hs2⟩
 have hs12:ar w w2 F F2 (fun k j=>k=g∧j=i):=(ar.cY (aa H1).2 _).trans hs2 (fun _ _ _ h=>h)
 have hlc:=ab hc1
 have hc2:w2.cell? ⟨cb,1,none⟩=some (.pointer (some ⟨b,0,none⟩)):=(hs12.oth cb 1 hlc (aa H).1.nf (fun h=>hgc h.1.symm)).trans hc1
 have hRu:=(aa H).2.1.mono hs12.size (fun k hk=>hs12.block ((aa H).2.1.lt k hk) ((aa H).2.2.1 k hk).1 (fun j h=>((aa H).2.2.1 k hk).2 h.1))
 have hS0:Fr (fun _=>False) w2 w2:=Fr.refl _ _
 have hP2:PR cb b g i (.int .u32 (((q.named nm).go 4 0).2.1:Nat)) w2:=⟨hc2,hp2⟩
 have hncb:=hs12.nF hlc (aa H).1.nf
 have hng:=hs12.nF (ab hp) hgF
 have H2:=ae (And.intro hR2 (And.intro hs12 (And.intro hRu (And.intro hP2 (And.intro hncb hng)))))
 clear hR2 hs2 hs12 hRu hP2 hncb hng
 go_wp2_with fail
 go_region_held3 (fun w'=>PR cb b g i (.int .u32 (((q.named nm).go 4 0).2.1:Nat)) w') (first|assumption|exact⟨hc2,hp2⟩|(refine⟨?_,?_⟩ <;> (simp only[World.cell?_drew,World.cell?_drewN] at *;assumption))) (first
  | (go_at_call 172;refine(zo K _ _ E rs ((q.named nm).go 4 0).2.1 cb b g i w2 _ (by first|assumption|exact Fr.drew (by assumption)) (aa H2).2.2.1 ⟨rfl,hv⟩ (aa H2).2.2.2.1 hn).mono ?_;rintro e w3 ⟨rfl,hS3,hP3⟩)
  | (go_at_call 171;refine(g8 _ _ cb b g i _ F2 E w2 _ (by first|assumption|exact Fr.drew (by assumption)) (aa H2).1 (aa H2).2.2.2.1 (aa H2).2.2.2.2.1 (aa H2).2.2.2.2.2).mono ?_;rintro e w4 ⟨rfl,hS4,hP4⟩))
 obtain⟨F4,hR4,hch4⟩:=hS4
 have hp4:=hP4.2
 have H4:=ae (And.intro hR4 hch4)
 clear hR4 hch4 hS3 hP3 hP4
 go_wp2_with fail
 first|go_end0|((try simp only[Exit.inBlock,Exit.then]);refine bodyPost_ret (results_none rfl _ _ _) rfl ?_)
 have hs4:ar w w4 F F4 (fun k j=>k=g∧j=i):=(aa H2).2.1.trans (ar.cY (aa H4).2 _) (fun _ _ _ h=>h)
 refine⟨rfl,F4,(aa H).1.gR (aa H4).1 hs4 (fun k j h=>by rw[h.1];exact⟨hgl,hgc⟩) (Q.bH (Q.go_ok (Q.bt (aa H).2.2.2.2.1 nm) _ _) _ ((aa H).2.1.le _)) ?_,hp4,hs4⟩
 rw[Q.dj,Q.go_all]
 rfl
theorem rK (q:Q) (nm:ByteArray) (rs:List (Nat→Nat)) (old:Value) (m:Int) (cb b g i:Nat) (F K:Nat→Prop) (E:Nat→Addr) (rx:Value) (w:World) (h:Cd w cb b F (.rd q) E) (hp:w.cell? ⟨g,i,none⟩=some old) (fz:w.frozen? ⟨g,i,none⟩=false) (hv:((q.named nm).go 5 0).2.1<4294967296) (hgF:¬ F g) (hgc:g≠cb) (hgl:9≤g) (hR:dC im w K rx E rs) (hK:∀ k,K k→¬ F k∧k≠g) (hn:rs.length<9223372036854775808) :
  Calls Tryz.prog 199 #[.pointer (some ⟨cb,0,none⟩),.string nm,.pointer (some ⟨g,i,none⟩),.int .i64 m,rx] w fun e w'=>e = .returned (.tuple #[])∧∃ F',Cd w' cb b F' (.rd (((q.named nm).go 5 0).1.ah (fb rs ((q.named nm).go 5 0).2.1))) E∧w'.cell? ⟨g,i,none⟩=some (.float .f32 ((q.named nm).go 5 0).2.1)∧ar w w' F F' (fun k j=>k=g∧j=i):=by
 have hc0:w.cell? ⟨cb,0,none⟩=some (.pointer none):=h.c0
 have hc1:w.cell? ⟨cb,1,none⟩=some (.pointer (some ⟨b,0,none⟩)):=h.c1
 have hst:R w b F (q.dH E)∧q.ok∧q.all.length≤140737488355328:=h.st
 have H:=ae (And.intro h (And.intro hR (And.intro hK hst)))
 clear h hR hK hst
 obtain⟨xo,xc,rfl⟩:=(aa H).2.1.form
 go_enter Tryz.func199,Tryz.ntmps199
 go_wp2_with fail
 refine(cm q nm b F E w (aa H).2.2.2.1).mono ?_
 rintro e w1 ⟨rfl,hR1,hch1⟩
 have hc1':w1.cell? ⟨cb,1,none⟩=some (.pointer (some ⟨b,0,none⟩)):=(hch1.fr.cell (p:=⟨cb,1,none⟩) (ab hc1) (aa H).1.nf).trans hc1
 have hp1:w1.cell? ⟨g,i,none⟩=some old:=(hch1.fr.cell (p:=⟨g,i,none⟩) (ab hp) hgF).trans hp
 have fz1:w1.frozen? ⟨g,i,none⟩=false:=(hch1.fr.frozen (p:=⟨g,i,none⟩) (ab hp) hgF).trans fz
 have H1:=ae (And.intro hR1 hch1)
 clear hR1 hch1
 go_wp2_with fail
 refine(yB (q.named nm) m g i old b F E w1  hp1 fz1 hgF ((aa H).1.g7.fr (aa H1).2.fr (aa H).1.lo) (aa H1).1).mono ?_
 rintro e w2 ⟨rfl,F2,hR2,hp2,hs2⟩
 have hs12:ar w w2 F F2 (fun k j=>k=g∧j=i):=(ar.cY (aa H1).2 _).trans hs2 (fun _ _ _ h=>h)
 have hlc:=ab hc1
 have hc2:w2.cell? ⟨cb,1,none⟩=some (.pointer (some ⟨b,0,none⟩)):=(hs12.oth cb 1 hlc (aa H).1.nf (fun h=>hgc h.1.symm)).trans hc1
 have hRu:=(aa H).2.1.mono hs12.size (fun k hk=>hs12.block ((aa H).2.1.lt k hk) ((aa H).2.2.1 k hk).1 (fun j h=>((aa H).2.2.1 k hk).2 h.1))
 have hS0:Fr (fun _=>False) w2 w2:=Fr.refl _ _
 have hP2:PR cb b g i (.float .f32 ((q.named nm).go 5 0).2.1) w2:=⟨hc2,hp2⟩
 have hncb:=hs12.nF hlc (aa H).1.nf
 have hng:=hs12.nF (ab hp) hgF
 have H2:=ae (And.intro hR2 (And.intro hs12 (And.intro hRu (And.intro hP2 (And.intro hncb hng)))))
 clear hR2 hs2 hs12 hRu hP2 hncb hng
 go_wp2_with fail
 go_region_held3 (fun w'=>PR cb b g i (.float .f32 ((q.named nm).go 5 0).2.1) w') (first|assumption|exact⟨hc2,hp2⟩|(refine⟨?_,?_⟩ <;> (simp only[World.cell?_drew,World.cell?_drewN] at *;assumption))) (first
  | (go_at_call 226;refine(zP K _ _ E rs ((q.named nm).go 5 0).2.1 cb b g i w2 _ (by first|assumption|exact Fr.drew (by assumption)) (aa H2).2.2.1 ⟨rfl,hv⟩ (aa H2).2.2.2.1 hn).mono ?_;rintro e w3 ⟨rfl,hS3,hP3⟩)
  | (go_at_call 171;refine(g8 _ _ cb b g i _ F2 E w2 _ (by first|assumption|exact Fr.drew (by assumption)) (aa H2).1 (aa H2).2.2.2.1 (aa H2).2.2.2.2.1 (aa H2).2.2.2.2.2).mono ?_;rintro e w4 ⟨rfl,hS4,hP4⟩))
 obtain⟨F4,hR4,hch4⟩:=hS4
 have hp4:=hP4.2
 have H4:=ae (And.intro hR4 hch4)
 clear hR4 hch4 hS3 hP3 hP4
 go_wp2_with fail
 first|go_end0|((try simp only[Exit.inBlock,Exit.then]);refine bodyPost_ret (results_none rfl _ _ _) rfl ?_)
 have hs4:ar w w4 F F4 (fun k j=>k=g∧j=i):=(aa H2).2.1.trans (ar.cY (aa H4).2 _) (fun _ _ _ h=>h)
 refine⟨rfl,F4,(aa H).1.gR (aa H4).1 hs4 (fun k j h=>by rw[h.1];exact⟨hgl,hgc⟩) (Q.bH (Q.go_ok (Q.bt (aa H).2.2.2.2.1 nm) _ _) _ ((aa H).2.1.le _)) ?_,hp4,hs4⟩
 rw[Q.dj,Q.go_all]
 rfl
theorem rS (q:Q) (nm:ByteArray) (rs:List (ByteArray→Nat)) (old:Value) (m:Int) (cb b g i:Nat) (F K:Nat→Prop) (E:Nat→Addr) (rx:Value) (w:World) (h:Cd w cb b F (.rd q) E) (hp:w.cell? ⟨g,i,none⟩=some old) (fz:w.frozen? ⟨g,i,none⟩=false) (hm:m<9223372036854775808) (hgF:¬ F g) (hgc:g≠cb) (hgl:9≤g) (hR:dC dD w K rx E rs) (hK:∀ k,K k→¬ F k∧k≠g) (hn:rs.length<9223372036854775808) :
  Calls Tryz.prog 157 #[.pointer (some ⟨cb,0,none⟩),.string nm,.pointer (some ⟨g,i,none⟩),.int .i64 m,rx] w fun e w'=>e = .returned (.tuple #[])∧∃ F',Cd w' cb b F' (.rd (((q.named nm).go 6 m).1.ah (fb rs (strOf ((q.named nm).go 6 m).2.2)))) E∧w'.cell? ⟨g,i,none⟩=some (.string (strOf ((q.named nm).go 6 m).2.2))∧ar w w' F F' (fun k j=>k=g∧j=i):=by
 have hc0:w.cell? ⟨cb,0,none⟩=some (.pointer none):=h.c0
 have hc1:w.cell? ⟨cb,1,none⟩=some (.pointer (some ⟨b,0,none⟩)):=h.c1
 have hst:R w b F (q.dH E)∧q.ok∧q.all.length≤140737488355328:=h.st
 have H:=ae (And.intro h (And.intro hR (And.intro hK hst)))
 clear h hR hK hst
 obtain⟨xo,xc,rfl⟩:=(aa H).2.1.form
 go_enter Tryz.func157,Tryz.ntmps157
 go_wp2_with fail
 refine(cm q nm b F E w (aa H).2.2.2.1).mono ?_
 rintro e w1 ⟨rfl,hR1,hch1⟩
 have hc1':w1.cell? ⟨cb,1,none⟩=some (.pointer (some ⟨b,0,none⟩)):=(hch1.fr.cell (p:=⟨cb,1,none⟩) (ab hc1) (aa H).1.nf).trans hc1
 have hp1:w1.cell? ⟨g,i,none⟩=some old:=(hch1.fr.cell (p:=⟨g,i,none⟩) (ab hp) hgF).trans hp
 have fz1:w1.frozen? ⟨g,i,none⟩=false:=(hch1.fr.frozen (p:=⟨g,i,none⟩) (ab hp) hgF).trans fz
 have H1:=ae (And.intro hR1 hch1)
 clear hR1 hch1
 go_wp2_with fail
 refine(yp (q.named nm) m g i old b F E w1 hm hp1 fz1 hgF ((aa H).1.g7.fr (aa H1).2.fr (aa H).1.lo) (aa H1).1).mono ?_
 rintro e w2 ⟨rfl,F2,hR2,hp2,hs2⟩
 have hs12:ar w w2 F F2 (fun k j=>k=g∧j=i):=(ar.cY (aa H1).2 _).trans hs2 (fun _ _ _ h=>h)
 have hlc:=ab hc1
 have hc2:w2.cell? ⟨cb,1,none⟩=some (.pointer (some ⟨b,0,none⟩)):=(hs12.oth cb 1 hlc (aa H).1.nf (fun h=>hgc h.1.symm)).trans hc1
 have hRu:=(aa H).2.1.mono hs12.size (fun k hk=>hs12.block ((aa H).2.1.lt k hk) ((aa H).2.2.1 k hk).1 (fun j h=>((aa H).2.2.1 k hk).2 h.1))
 have hS0:Fr (fun _=>False) w2 w2:=Fr.refl _ _
 have hP2:PR cb b g i (.string (strOf ((q.named nm).go 6 m).2.2)) w2:=⟨hc2,hp2⟩
 have hncb:=hs12.nF hlc (aa H).1.nf
 have hng:=hs12.nF (ab hp) hgF
 have H2:=ae (And.intro hR2 (And.intro hs12 (And.intro hRu (And.intro hP2 (And.intro hncb hng)))))
 clear hR2 hs2 hs12 hRu hP2 hncb hng
 go_wp2_with fail
 go_region_held3 (fun w'=>PR cb b g i (.string (strOf ((q.named nm).go 6 m).2.2)) w') (first|assumption|exact⟨hc2,hp2⟩|(refine⟨?_,?_⟩ <;> (simp only[World.cell?_drew,World.cell?_drewN] at *;assumption))) (first
  | (go_at_call 177;refine(yV K _ _ E rs (strOf ((q.named nm).go 6 m).2.2) cb b g i w2 _ (by first|assumption|exact Fr.drew (by assumption)) (aa H2).2.2.1 rfl (aa H2).2.2.2.1 hn).mono ?_;rintro e w3 ⟨rfl,hS3,hP3⟩)
  | (go_at_call 171;refine(g8 _ _ cb b g i _ F2 E w2 _ (by first|assumption|exact Fr.drew (by assumption)) (aa H2).1 (aa H2).2.2.2.1 (aa H2).2.2.2.2.1 (aa H2).2.2.2.2.2).mono ?_;rintro e w4 ⟨rfl,hS4,hP4⟩))
 obtain⟨F4,hR4,hch4⟩:=hS4
 have hp4:=hP4.2
 have H4:=ae (And.intro hR4 hch4)
 clear hR4 hch4 hS3 hP3 hP4
 go_wp2_with fail
 first|go_end0|((try simp only[Exit.inBlock,Exit.then]);refine bodyPost_ret (results_none rfl _ _ _) rfl ?_)
 have hs4:ar w w4 F F4 (fun k j=>k=g∧j=i):=(aa H2).2.1.trans (ar.cY (aa H4).2 _) (fun _ _ _ h=>h)
 refine⟨rfl,F4,(aa H).1.gR (aa H4).1 hs4 (fun k j h=>by rw[h.1];exact⟨hgl,hgc⟩) (Q.bH (Q.go_ok (Q.bt (aa H).2.2.2.2.1 nm) _ _) _ ((aa H).2.1.le _)) ?_,hp4,hs4⟩
 rw[Q.dj,Q.go_all]
 rfl
theorem rQ (q:Q) (nm:ByteArray) (rs:List (Int→Nat)) (old:Value) (m:Int) (cb b g i:Nat) (F K:Nat→Prop) (E:Nat→Addr) (rx:Value) (w:World) (h:Cd w cb b F (.rd q) E) (hp:w.cell? ⟨g,i,none⟩=some old) (fz:w.frozen? ⟨g,i,none⟩=false) (hm:m<9223372036854775808) (hgF:¬ F g) (hgc:g≠cb) (hgl:9≤g) (hR:dC dm w K rx E rs) (hK:∀ k,K k→¬ F k∧k≠g) (hn:rs.length<9223372036854775808) :
  Calls Tryz.prog 159 #[.pointer (some ⟨cb,0,none⟩),.string nm,.pointer (some ⟨g,i,none⟩),.int .i64 m,rx] w fun e w'=>e = .returned (.tuple #[])∧∃ F',Cd w' cb b F' (.rd (((q.named nm).go 7 m).1.ah (fb rs (((q.named nm).go 7 m).2.1:Int)))) E∧w'.cell? ⟨g,i,none⟩=some (.int .i64 (((q.named nm).go 7 m).2.1:Nat))∧ar w w' F F' (fun k j=>k=g∧j=i):=by
 have hc0:w.cell? ⟨cb,0,none⟩=some (.pointer none):=h.c0
 have hc1:w.cell? ⟨cb,1,none⟩=some (.pointer (some ⟨b,0,none⟩)):=h.c1
 have hst:R w b F (q.dH E)∧q.ok∧q.all.length≤140737488355328:=h.st
 have H:=ae (And.intro h (And.intro hR (And.intro hK hst)))
 clear h hR hK hst
 obtain⟨xo,xc,rfl⟩:=(aa H).2.1.form
 go_enter Tryz.func159,Tryz.ntmps159
 go_wp2_with fail
 refine(cm q nm b F E w (aa H).2.2.2.1).mono ?_
 rintro e w1 ⟨rfl,hR1,hch1⟩
 have hc1':w1.cell? ⟨cb,1,none⟩=some (.pointer (some ⟨b,0,none⟩)):=(hch1.fr.cell (p:=⟨cb,1,none⟩) (ab hc1) (aa H).1.nf).trans hc1
 have hp1:w1.cell? ⟨g,i,none⟩=some old:=(hch1.fr.cell (p:=⟨g,i,none⟩) (ab hp) hgF).trans hp
 have fz1:w1.frozen? ⟨g,i,none⟩=false:=(hch1.fr.frozen (p:=⟨g,i,none⟩) (ab hp) hgF).trans fz
 have H1:=ae (And.intro hR1 hch1)
 clear hR1 hch1
 go_wp2_with fail
 refine(xY (q.named nm) m g i old b F E w1 hm hp1 fz1 hgF ((aa H).1.g7.fr (aa H1).2.fr (aa H).1.lo) (aa H1).1).mono ?_
 rintro e w2 ⟨rfl,F2,hR2,hp2,hs2⟩
 have hs12:ar w w2 F F2 (fun k j=>k=g∧j=i):=(ar.cY (aa H1).2 _).trans hs2 (fun _ _ _ h=>h)
 have hlc:=ab hc1
 have hc2:w2.cell? ⟨cb,1,none⟩=some (.pointer (some ⟨b,0,none⟩)):=(hs12.oth cb 1 hlc (aa H).1.nf (fun h=>hgc h.1.symm)).trans hc1
 have hRu:=(aa H).2.1.mono hs12.size (fun k hk=>hs12.block ((aa H).2.1.lt k hk) ((aa H).2.2.1 k hk).1 (fun j h=>((aa H).2.2.1 k hk).2 h.1))
 have hS0:Fr (fun _=>False) w2 w2:=Fr.refl _ _
 have hP2:PR cb b g i (.int .i64 (((q.named nm).go 7 m).2.1:Nat)) w2:=⟨hc2,hp2⟩
 have hncb:=hs12.nF hlc (aa H).1.nf
 have hng:=hs12.nF (ab hp) hgF
 have H2:=ae (And.intro hR2 (And.intro hs12 (And.intro hRu (And.intro hP2 (And.intro hncb hng)))))
 clear hR2 hs2 hs12 hRu hP2 hncb hng
 go_wp2_with fail
 go_region_held3 (fun w'=>PR cb b g i (.int .i64 (((q.named nm).go 7 m).2.1:Nat)) w') (first|assumption|exact⟨hc2,hp2⟩|(refine⟨?_,?_⟩ <;> (simp only[World.cell?_drew,World.cell?_drewN] at *;assumption))) (first
  | (go_at_call 179;refine(zw K _ _ E rs (((q.named nm).go 7 m).2.1:Int) cb b g i w2 _ (by first|assumption|exact Fr.drew (by assumption)) (aa H2).2.2.1 rfl (aa H2).2.2.2.1 hn).mono ?_;rintro e w3 ⟨rfl,hS3,hP3⟩)
  | (go_at_call 171;refine(g8 _ _ cb b g i _ F2 E w2 _ (by first|assumption|exact Fr.drew (by assumption)) (aa H2).1 (aa H2).2.2.2.1 (aa H2).2.2.2.2.1 (aa H2).2.2.2.2.2).mono ?_;rintro e w4 ⟨rfl,hS4,hP4⟩))
 obtain⟨F4,hR4,hch4⟩:=hS4
 have hp4:=hP4.2
 have H4:=ae (And.intro hR4 hch4)
 clear hR4 hch4 hS3 hP3 hP4
 go_wp2_with fail
 first|go_end0|((try simp only[Exit.inBlock,Exit.then]);refine bodyPost_ret (results_none rfl _ _ _) rfl ?_)
 have hs4:ar w w4 F F4 (fun k j=>k=g∧j=i):=(aa H2).2.1.trans (ar.cY (aa H4).2 _) (fun _ _ _ h=>h)
 refine⟨rfl,F4,(aa H).1.gR (aa H4).1 hs4 (fun k j h=>by rw[h.1];exact⟨hgl,hgc⟩) (Q.bH (Q.go_ok (Q.bt (aa H).2.2.2.2.1 nm) _ _) _ ((aa H).2.1.le _)) ?_,hp4,hs4⟩
 rw[Q.dj,Q.go_all]
 rfl
theorem sr (q:Q) (nm:ByteArray) (rs:List (List Nat→Nat)) (old:Value) (m:Int) (cb b g i:Nat) (F K:Nat→Prop) (E:Nat→Addr) (rx:Value) (w:World) (h:Cd w cb b F (.rd q) E) (hp:w.cell? ⟨g,i,none⟩=some old) (fz:w.frozen? ⟨g,i,none⟩=false) (hm:m<9223372036854775808) (hgF:¬ F g) (hgc:g≠cb) (hgl:9≤g) (hR:dC eD w K rx E rs) (hK:∀ k,K k→¬ F k∧k≠g) (hn:rs.length<9223372036854775808) :
  Calls Tryz.prog 160 #[.pointer (some ⟨cb,0,none⟩),.string nm,.pointer (some ⟨g,i,none⟩),.int .i64 m,rx] w fun e w'=>e = .returned (.tuple #[])∧∃ F' ao cap,Cd w' cb b F' (.rd (((q.named nm).go 6 m).1.ah (fb rs ((q.named nm).go 6 m).2.2))) E∧w'.cell? ⟨g,i,none⟩=some (.slice ao ((q.named nm).go 6 m).2.2.length cap)∧w'.ownsRow w.heap.size 5 1 (.slice ao ((q.named nm).go 6 m).2.2.length cap) ((q.named nm).go 6 m).2.2.length (cellsOf ((q.named nm).go 6 m).2.2)∧(∀ k,(Value.slice ao ((q.named nm).go 6 m).2.2.length cap).ownBlock=some k→¬ F' k)∧ar w w' F F' (fun k j=>k=g∧j=i):=by
 have hc0:w.cell? ⟨cb,0,none⟩=some (.pointer none):=h.c0
 have hc1:w.cell? ⟨cb,1,none⟩=some (.pointer (some ⟨b,0,none⟩)):=h.c1
 have hst:R w b F (q.dH E)∧q.ok∧q.all.length≤140737488355328:=h.st
 have H:=ae (And.intro h (And.intro hR (And.intro hK hst)))
 clear h hR hK hst
 obtain⟨xo,xc,rfl⟩:=(aa H).2.1.form
 go_enter Tryz.func160,Tryz.ntmps160
 go_wp2_with fail
 refine(cm q nm b F E w (aa H).2.2.2.1).mono ?_
 rintro e w1 ⟨rfl,hR1,hch1⟩
 have hc1':w1.cell? ⟨cb,1,none⟩=some (.pointer (some ⟨b,0,none⟩)):=(hch1.fr.cell (p:=⟨cb,1,none⟩) (ab hc1) (aa H).1.nf).trans hc1
 have hp1:w1.cell? ⟨g,i,none⟩=some old:=(hch1.fr.cell (p:=⟨g,i,none⟩) (ab hp) hgF).trans hp
 have fz1:w1.frozen? ⟨g,i,none⟩=false:=(hch1.fr.frozen (p:=⟨g,i,none⟩) (ab hp) hgF).trans fz
 have H1:=ae (And.intro hR1 hch1)
 clear hR1 hch1
 go_wp2_with fail
 refine(wH (q.named nm) m g i old b F E w1 hm (aa H).2.2.2.2.2 hp1 fz1 hgF ((aa H).1.g7.fr (aa H1).2.fr (aa H).1.lo) (aa H1).1).mono ?_
 rintro e w2 ⟨rfl,F2,ao,cap,hR2,hp2,hown2,hno2,hs2⟩
 have hs12:ar w w2 F F2 (fun k j=>k=g∧j=i):=(ar.cY (aa H1).2 _).trans hs2 (fun _ _ _ h=>h)
 have hlc:=ab hc1
 have hc2:w2.cell? ⟨cb,1,none⟩=some (.pointer (some ⟨b,0,none⟩)):=(hs12.oth cb 1 hlc (aa H).1.nf (fun h=>hgc h.1.symm)).trans hc1
 have hRu:=(aa H).2.1.mono hs12.size (fun k hk=>hs12.block ((aa H).2.1.lt k hk) ((aa H).2.2.1 k hk).1 (fun j h=>((aa H).2.2.1 k hk).2 h.1))
 have hS0:Fr (fun _=>False) w2 w2:=Fr.refl _ _
 have hP2:PR cb b g i (.slice ao ((q.named nm).go 6 m).2.2.length cap) w2:=⟨hc2,hp2⟩
 have hncb:=hs12.nF hlc (aa H).1.nf
 have hng:=hs12.nF (ab hp) hgF
 have hown0:=ed hown2 (aa H1).2.fr.size
 have H2:=ae (And.intro hR2 (And.intro hs12 (And.intro hRu (And.intro hP2 (And.intro hncb hng)))))
 have H2b:=ae (And.intro hown0 hno2)
 clear hR2 hs2 hs12 hRu hP2 hncb hng hown0 hown2 hno2
 generalize hln:((q.named nm).go 6 m).2.2.length=ln at *
 go_wp2_with fail
 go_region_held3 (fun w'=>PR cb b g i (.slice ao ln cap) w') (first|assumption|exact⟨hc2,hp2⟩|(refine⟨?_,?_⟩ <;> (simp only[World.cell?_drew,World.cell?_drewN] at *;assumption))) (first
  | (go_at_call 180;refine(zq K _ _ E rs ((q.named nm).go 6 m).2.2 cb b g i w2 _ (by first|assumption|exact Fr.drew (by assumption)) (aa H2).2.2.1 (by show Src w2 _ _;rw[← hln];exact bR (by rw[hln];exact(aa H2b).1)) (aa H2).2.2.2.1 hn).mono ?_;rintro e w3 ⟨rfl,hS3,hP3⟩)
  | (go_at_call 171;refine(g8 _ _ cb b g i _ F2 E w2 _ (by first|assumption|exact Fr.drew (by assumption)) (aa H2).1 (aa H2).2.2.2.1 (aa H2).2.2.2.2.1 (aa H2).2.2.2.2.2).mono ?_;rintro e w4 ⟨rfl,hS4,hP4⟩))
 obtain⟨F4,hR4,hch4⟩:=hS4
 have hp4:=hP4.2
 have H4:=ae (And.intro hR4 hch4)
 clear hR4 hch4 hS3 hP3 hP4
 go_wp2_with fail
 first|go_end0|((try simp only[Exit.inBlock,Exit.then]);refine bodyPost_ret (results_none rfl _ _ _) rfl ?_)
 have hs4:ar w w4 F F4 (fun k j=>k=g∧j=i):=(aa H2).2.1.trans (ar.cY (aa H4).2 _) (fun _ _ _ h=>h)
 subst hln
 have hlt2:∀ k,(Value.slice ao ((q.named nm).go 6 m).2.2.length cap).ownBlock=some k→k<w2.heap.size:=fun k hk=>((aa H2b).1.lt k hk).2
 refine⟨rfl,F4,ao,cap,(aa H).1.gR (aa H4).1 hs4 (fun k j h=>by rw[h.1];exact⟨hgl,hgc⟩) (Q.bH (Q.go_ok (Q.bt (aa H).2.2.2.2.1 nm) _ _) _ ((aa H).2.1.le _)) ?_,hp4,av (aa H2b).1 (fun k hk=>(aa H4).2.fr.block k (hlt2 k hk) ((aa H2b).2 k hk)),fun k hk hx=>?_,hs4⟩
 ·rw[Q.dj,Q.go_all]
  rfl
 ·have h1:=hlt2 k hk
  rcases(aa H4).2.new k hx with h2|h2
  ·exact(aa H2b).2 k hk h2
  ·omega
theorem Q.go_lt (q:Q) (k m:Int):(q.go k m).2.1<256 ^ wid k:=by
  have hp:0<256 ^ wid k:=Nat.pow_pos (by decide)
  unfold Q.go Q.step
  repeat' split
  all_goals first
    | exact hp
    | (simp only[Q.num]
       refine Nat.lt_of_lt_of_le (gD _) (Nat.pow_le_pow_right (by decide) ?_)
       rw[List.length_take]
       exact Nat.min_le_left _ _)
theorem CS.rZ (c:CS) (nm:ByteArray) (rs:List (Nat→Nat)) (v:Nat) (hv:v<256):(c.fe nm rs v).2<256:=by
  cases c with
  | wr s=>exact hv
  | rd q=>exact(q.named nm).go_lt 1 0
theorem CS.kN (c:CS) (nm:ByteArray) (rs:List (Nat→Nat)) (v:Nat) (hv:v<4294967296):(c.bL nm rs v).2<4294967296:=by
  cases c with
  | wr s=>exact hv
  | rd q=>exact(q.named nm).go_lt 4 0
theorem CS.zh (c:CS) (nm:ByteArray) (rs:List (Nat→Nat)) (v:Nat) (hv:v<4294967296):(c.gq nm rs v).2<4294967296:=by
  cases c with
  | wr s=>exact hv
  | rd q=>exact(q.named nm).go_lt 5 0
theorem fc (l:List Nat):(strOf l).size=l.length:=by simp[strOf,ByteArray.size]
theorem CS.uv {w:World} {cb b:Nat} {F:Nat→Prop} {c:CS} {E:Nat→Addr} (h:Cd w cb b F c E) (nm:ByteArray) (m:Int) (rs:List (ByteArray→Nat)) (v:ByteArray) (hv:v.size<9223372036854775808):(c.dG nm m rs v).2.size<9223372036854775808:=by
  cases c with
  | wr s=>exact hv
  | rd q =>
    have h1:=(q.named nm).ti m
    have h2:q.all.length≤140737488355328:=(show R w b F (q.dH E)∧q.ok∧q.all.length≤140737488355328 from h.st).2.2
    simp only[CS.dG,fc]
    have h3:(q.named nm).all=q.all:=rfl
    rw[h3] at h1
    omega
theorem CS.zj {w:World} {cb b:Nat} {F:Nat→Prop} {c:CS} {E:Nat→Addr} (h:Cd w cb b F c E) (nm:ByteArray) (m:Int) (rs:List (List Nat→Nat)) (v:List Nat) (hv:v.length<9223372036854775808):(c.eR nm m rs v).2.length<9223372036854775808:=by
  cases c with
  | wr s=>exact hv
  | rd q =>
    have h1:=(q.named nm).ti m
    have h2:q.all.length≤140737488355328:=(show R w b F (q.dH E)∧q.ok∧q.all.length≤140737488355328 from h.st).2.2
    simp only[CS.eR]
    have h3:(q.named nm).all=q.all:=rfl
    rw[h3] at h1
    omega
structure Loc (w:World) (cb:Nat) (F:Nat→Prop) (g i:Nat):Prop where
  fz:w.frozen? ⟨g,i,none⟩=false
  lt:g<w.heap.size
  nF:¬ F g
  nc:g≠cb
  lo:9≤g
theorem Loc.aP {w w':World} {cb:Nat} {F F':Nat→Prop} {P:Nat→Nat→Prop} {g i:Nat} (h:Loc w cb F g i) (hs:ar w w' F F' P):Loc w' cb F' g i:=
  ⟨(hs.fz g i h.lt h.nF).trans h.fz,Nat.lt_of_lt_of_le h.lt hs.size,hs.nF h.lt h.nF,h.nc,h.lo⟩
structure ij {α:Type} (en:World→Value→α→Prop) (w:World) (F:Nat→Prop) (g:Nat) (rx:Value) (E:Nat→Addr) (rs:List (α→Nat)):Prop where
  ex:∃ K,dC en w K rx E rs∧(∀ k,K k→¬ F k∧k≠g)
  n:rs.length<9223372036854775808
theorem ij.nil {α:Type} (en:World→Value→α→Prop) (w:World) (F:Nat→Prop) (g:Nat) (E:Nat→Addr):ij en w F g (.slice none 0 0) E ([]:List (α→Nat)):=⟨⟨_,dC.nil en w E,fun _ h=>h.elim⟩,by simp⟩
theorem zB (c:CS) (nm:ByteArray) (rs:List (Nat→Nat)) (v:Nat) (m:Int) (cb b g i:Nat) (F:Nat→Prop) (E:Nat→Addr) (rx:Value) (w:World) (h:Cd w cb b F c E) (hp:w.cell? ⟨g,i,none⟩=some (.int .u8 (v:Nat))) (hL:Loc w cb F g i) (hv:v<256) (hR:ij dP w F g rx E rs) (hroom:c.room 1) :
    Calls Tryz.prog 148 #[.pointer (some ⟨cb,0,none⟩),.string nm,.pointer (some ⟨g,i,none⟩),.int .i64 m,rx] w fun e w'=>e = .returned (.tuple #[])∧∃ F',Cd w' cb b F' (c.fe nm  rs v).1 E∧w'.cell? ⟨g,i,none⟩=some (.int .u8 ((c.fe nm rs v).2:Nat))∧ar w w' F F' (fun k j=>k=g∧j=i):=by
  obtain⟨⟨K,hRu,hK⟩,hn⟩:=hR
  cases c with
  | wr s =>
    refine(vA s nm rs v m cb b g i F K E rx w h hp hv hL.nF hRu (fun k hk=>(hK k hk).1) hn (fun _=>by simp only[CS.room,CS.len] at hroom;omega)).mono ?_
    rintro e w' ⟨rfl,F',hC,hch⟩
    exact⟨rfl,F',hC,(hch.fr.cell (p:=⟨g,i,none⟩) hL.lt hL.nF).trans hp,ar.cY hch _⟩
  | rd q=>exact vk q nm rs (.int .u8 (v:Nat)) m cb b g i F K E rx w h hp hL.fz ((q.named nm).go_lt 1 0) hL.nF hL.nc hL.lo hRu hK hn
theorem xS (c:CS) (nm:ByteArray) (rs:List (Nat→Nat)) (v:Nat) (m:Int) (cb b g i:Nat) (F:Nat→Prop) (E:Nat→Addr) (rx:Value) (w:World) (h:Cd w cb b F c E) (hp:w.cell? ⟨g,i,none⟩=some (.int .u32 (v:Nat))) (hL:Loc w cb F g i) (hv:v<4294967296) (hR:ij dR w F g rx E rs) (hroom:c.room 1) :
    Calls Tryz.prog 150 #[.pointer (some ⟨cb,0,none⟩),.string nm,.pointer (some ⟨g,i,none⟩),.int .i64 m,rx] w fun e w'=>e = .returned (.tuple #[])∧∃ F',Cd w' cb b F' (c.bL nm  rs v).1 E∧w'.cell? ⟨g,i,none⟩=some (.int .u32 ((c.bL nm rs v).2:Nat))∧ar w w' F F' (fun k j=>k=g∧j=i):=by
  obtain⟨⟨K,hRu,hK⟩,hn⟩:=hR
  cases c with
  | wr s =>
    refine(tM s nm rs v m cb b g i F K E rx w h hp hv hL.nF hRu (fun k hk=>(hK k hk).1) hn (fun _=>by simp only[CS.room,CS.len] at hroom;omega)).mono ?_
    rintro e w' ⟨rfl,F',hC,hch⟩
    exact⟨rfl,F',hC,(hch.fr.cell (p:=⟨g,i,none⟩) hL.lt hL.nF).trans hp,ar.cY hch _⟩
  | rd q=>exact sw q nm rs (.int .u32 (v:Nat)) m cb b g i F K E rx w h hp hL.fz ((q.named nm).go_lt 4 0) hL.nF hL.nc hL.lo hRu hK hn
theorem yj (c:CS) (nm:ByteArray) (rs:List (Nat→Nat)) (v:Nat) (m:Int) (cb b g i:Nat) (F:Nat→Prop) (E:Nat→Addr) (rx:Value) (w:World) (h:Cd w cb b F c E) (hp:w.cell? ⟨g,i,none⟩=some (.float .f32 v)) (hL:Loc w cb F g i) (hv:v<4294967296) (hR:ij im w F g rx E rs) (hroom:c.room 1) :
    Calls Tryz.prog 199 #[.pointer (some ⟨cb,0,none⟩),.string nm,.pointer (some ⟨g,i,none⟩),.int .i64 m,rx] w fun e w'=>e = .returned (.tuple #[])∧∃ F',Cd w' cb b F' (c.gq nm  rs v).1 E∧w'.cell? ⟨g,i,none⟩=some (.float .f32 (c.gq nm rs v).2)∧ar w w' F F' (fun k j=>k=g∧j=i):=by
  obtain⟨⟨K,hRu,hK⟩,hn⟩:=hR
  cases c with
  | wr s =>
    refine(sL s nm rs v m cb b g i F K E rx w h hp hv hL.nF hRu (fun k hk=>(hK k hk).1) hn (fun _=>by simp only[CS.room,CS.len] at hroom;omega)).mono ?_
    rintro e w' ⟨rfl,F',hC,hch⟩
    exact⟨rfl,F',hC,(hch.fr.cell (p:=⟨g,i,none⟩) hL.lt hL.nF).trans hp,ar.cY hch _⟩
  | rd q=>exact rK q nm rs (.float .f32 v) m cb b g i F K E rx w h hp hL.fz ((q.named nm).go_lt 5 0) hL.nF hL.nc hL.lo hRu hK hn
theorem wv (c:CS) (nm:ByteArray) (rs:List (ByteArray→Nat)) (v:ByteArray) (m:Int) (cb b g i:Nat) (F:Nat→Prop) (E:Nat→Addr) (rx:Value) (w:World) (h:Cd w cb b F c E) (hp:w.cell? ⟨g,i,none⟩=some (.string v)) (hL:Loc w cb F g i) (hv:v.size<9223372036854775808) (hm:m<9223372036854775808) (hfit:fb rs v=0→v.size≤32768) (hR:ij dD w F g rx E rs) (hroom:c.room 1) :
    Calls Tryz.prog 157 #[.pointer (some ⟨cb,0,none⟩),.string nm,.pointer (some ⟨g,i,none⟩),.int .i64 m,rx] w fun e w'=>e = .returned (.tuple #[])∧∃ F',Cd w' cb b F' (c.dG nm m rs v).1 E∧w'.cell? ⟨g,i,none⟩=some (.string (c.dG nm m rs v).2)∧ar w w' F F' (fun k j=>k=g∧j=i):=by
  obtain⟨⟨K,hRu,hK⟩,hn⟩:=hR
  cases c with
  | wr s =>
    refine(rO s nm rs v m cb b g i F K E rx w h hp hv hL.nF hRu (fun k hk=>(hK k hk).1) hn (fun e=>by have:=hfit e;simp only[CS.room,CS.len] at hroom;omega)).mono ?_
    rintro e w' ⟨rfl,F',hC,hch⟩
    exact⟨rfl,F',hC,(hch.fr.cell (p:=⟨g,i,none⟩) hL.lt hL.nF).trans hp,ar.cY hch _⟩
  | rd q=>exact rS q nm rs (.string v) m cb b g i F K E rx w h hp hL.fz hm hL.nF hL.nc hL.lo hRu hK hn
theorem xD (c:CS) (nm:ByteArray) (rs:List (Int→Nat)) (v:Int) (m:Int) (cb b g i:Nat) (F:Nat→Prop) (E:Nat→Addr) (rx:Value) (w:World) (h:Cd w cb b F c E) (hp:w.cell? ⟨g,i,none⟩=some (.int .i64 v)) (hL:Loc w cb F g i) (hv:v<9223372036854775808) (hm:m<9223372036854775808) (hR:ij dm w F g rx E rs) (hroom:c.room 1) :
    Calls Tryz.prog 159 #[.pointer (some ⟨cb,0,none⟩),.string nm,.pointer (some ⟨g,i,none⟩),.int .i64 m,rx] w fun e w'=>e = .returned (.tuple #[])∧∃ F',Cd w' cb b F' (c.cv nm m rs v).1 E∧w'.cell? ⟨g,i,none⟩=some (.int .i64 (c.cv nm m rs v).2)∧ar w w' F F' (fun k j=>k=g∧j=i):=by
  obtain⟨⟨K,hRu,hK⟩,hn⟩:=hR
  cases c with
  | wr s =>
    refine(sK s nm rs v m cb b g i F K E rx w h hp hv hL.nF hRu (fun k hk=>(hK k hk).1) hn (fun _=>by simp only[CS.room,CS.len] at hroom;omega)).mono ?_
    rintro e w' ⟨rfl,F',hC,hch⟩
    exact⟨rfl,F',hC,(hch.fr.cell (p:=⟨g,i,none⟩) hL.lt hL.nF).trans hp,ar.cY hch _⟩
  | rd q=>exact rQ q nm rs (.int .i64 v) m cb b g i F K E rx w h hp hL.fz hm hL.nF hL.nc hL.lo hRu hK hn
structure BV (w:World) (x:Value) (l:List Nat) (F:Nat→Prop):Prop where
  src:Src w x l
  at_:∀ g o m c,x = .slice (some ⟨g,o,none⟩) m c→g<w.heap.size∧¬ F g
theorem BV.aP {w w':World} {x:Value} {l:List Nat} {F F':Nat→Prop} {P:Nat→Nat→Prop} (h:BV w x l F) (hs:ar w w' F F' P) (hP:∀ g o m c,x = .slice (some ⟨g,o,none⟩) m c→∀ i,¬ P g i):BV w' x l F':=
  ⟨h.src.fr hs.fr (fun g o m c e hx=>hx.elim (h.at_ g o m c e).2 (fun ⟨i,hi⟩=>hP g o m c e i hi)),fun g o m c e=>⟨Nat.lt_of_lt_of_le (h.at_ g o m c e).1 hs.size,hs.nF (h.at_ g o m c e).1 (h.at_ g o m c e).2⟩⟩
theorem xW (c:CS) (nm:ByteArray) (rs:List (List Nat→Nat)) (x:Value) (v:List Nat) (m:Int) (cb b g i:Nat) (F:Nat→Prop) (E:Nat→Addr) (rx:Value) (w:World) (h:Cd w cb b F c E) (hp:w.cell? ⟨g,i,none⟩=some x) (hB:BV w x v F) (hL:Loc w cb F g i) (hv:v.length<9223372036854775808) (hm:m<9223372036854775808) (hfit:fb rs v=0→v.length≤32768) (hR:ij eD w F g rx E rs) (hroom:c.room 1) :
    Calls Tryz.prog 160 #[.pointer (some ⟨cb,0,none⟩),.string nm,.pointer (some ⟨g,i,none⟩),.int .i64 m,rx] w fun e w'=>e = .returned (.tuple #[])∧∃ F' x',Cd w' cb b F' (c.eR nm m rs v).1 E∧w'.cell? ⟨g,i,none⟩=some x'∧(((∃ s,c = .wr s)∧x'=x)∨w'.ownsRow w.heap.size 5 1 x' (c.eR nm m rs v).2.length (cellsOf (c.eR nm m rs v).2))∧(∀ k o m c,x' = .slice (some ⟨k,o,none⟩) m c→¬ F' k)∧ar w w' F F' (fun k j=>k=g∧j=i):=by
  obtain⟨⟨K,hRu,hK⟩,hn⟩:=hR
  cases c with
  | wr s =>
    refine(rE s nm rs x v m cb b g i F K E rx w h hp hB.src hB.at_ hv hL.nF hRu (fun k hk=>(hK k hk).1) hn (fun e=>by have:=hfit e;simp only[CS.room,CS.len] at hroom;omega)).mono ?_
    rintro e w' ⟨rfl,F',hC,hch⟩
    have hs:ar w w' F F' (fun k j=>k=g∧j=i):=ar.cY hch _
    exact⟨rfl,F',x,hC,(hch.fr.cell (p:=⟨g,i,none⟩) hL.lt hL.nF).trans hp,.inl ⟨⟨s,rfl⟩,rfl⟩,fun k o m c e=>hs.nF (hB.at_ k o m c e).1 (hB.at_ k o m c e).2,hs⟩
  | rd q =>
    refine(sr q nm rs x m cb b g i F K E rx w h hp hL.fz hm hL.nF hL.nc hL.lo hRu hK hn).mono ?_
    rintro e w' ⟨rfl,F',ao,cap,hC,hc,hown,hno,hs⟩
    exact⟨rfl,F',_,hC,hc,.inr hown,fun k o m c e=>hno k (by rw[e];rfl),hs⟩
def gh (beside:Bool) (_:Nat):Nat:=if beside then 4 else 0
theorem tJ (bs:Bool) (v:Nat) (E:Nat→Addr) (p0:Addr) (w:World) (h0:w.cell? p0=some (.bool bs)) (g4:w.cell? ⟨4,0,none⟩=some (ba E 4)) :
  Calls Tryz.prog 162 #[.int .u8 (v:Nat),.pointer (some p0)] w fun e w'=>e = .returned (ba E (gh bs v))∧Fr (fun _=>False) w w':=by
 cases bs
 all_goals
  go_enter Tryz.func162,Tryz.ntmps162
  go_wp2_with fail
  go_ret
  exact⟨rfl,Fr.refl _ _⟩
theorem lW (bs:Bool) (E:Nat→Addr) (w:World) (hg:G6 w E) :
  Calls Tryz.prog 144 #[.bool bs] w fun e w'=>∃ fv,e = .returned fv∧∃ K,iR dP w' K fv E (gh bs)∧Fr (fun _=>False) w w'∧fh w K:=by
 have hmf:=mf
 have k4:=hg.k4
 have hl4:=ab k4
 clear hg
 go_enter Tryz.func144,Tryz.ntmps144
 go_wp2_with fail
 go_ret
 refine⟨_,rfl,fun k=>k=w.heap.size∨k=4,⟨fun k hk=>?_,fun v=>by simp only[gh];split <;> omega,_,_,rfl,fun _ W=>enters Tryz.func162 rfl rfl _ W,?_⟩,al _ _,fun k hk=>?_⟩
 ·simp
  omega
 ·rintro w2 x v hk ⟨rfl,_⟩
  exact tJ bs v E _ w2 (cell_of (by simp) (hk _ (.inl rfl))) (cell_of ((al w _).cell hl4 (fun h=>h) |>.trans k4) (hk _ (.inr rfl)))
 ·rcases hk with rfl|rfl
  ·exact .inl (Nat.le_refl _)
  ·exact .inr (by decide)
def sle (v a:ByteArray):Bool:=Op.bytesLess v.toList a.toList || v.toList == a.toList
theorem z9 (v a:ByteArray) (w:World):(binOp .leq 9 (.string v) (.string a)).run Tryz.prog w = .ok (.bool (sle v a)) w:=by simp[binOp,Op.stringOp,sle]
def kf (a v:ByteArray):Nat:=if sle v a then 6 else 0
theorem u6 (a v:ByteArray) (E:Nat→Addr) (p0:Addr) (w:World) (h0:w.cell? p0=some (.string a)) (g6:w.cell? ⟨6,0,none⟩=some (ba E 6)) :
  Calls Tryz.prog 173 #[.string v,.pointer (some p0)] w fun e w'=>e = .returned (ba E (kf a v))∧Fr (fun _=>False) w w':=by
 have hle:=z9 v a
 unfold kf
 generalize sle v a=t at *
 cases t
 all_goals
  go_enter Tryz.func173,Tryz.ntmps173
  go_wp2_with fail
  go_ret
  exact⟨rfl,Fr.refl _ _⟩
theorem vU (a:ByteArray) (E:Nat→Addr) (w:World) (hg:G6 w E) :
  Calls Tryz.prog 154 #[.string a] w fun e w'=>∃ fv,e = .returned fv∧∃ K,iR dD w' K fv E (kf a)∧Fr (fun _=>False) w w'∧fh w K:=by
 have hmf:=mf
 have k6:=hg.k6
 have hl6:=ab k6
 clear hg
 go_enter Tryz.func154,Tryz.ntmps154
 go_wp2_with fail
 go_ret
 refine⟨_,rfl,fun k=>k=w.heap.size∨k=6,⟨fun k hk=>?_,fun v=>by unfold kf;split <;> omega,_,_,rfl,fun _ W=>enters Tryz.func173 rfl rfl _ W,?_⟩,al _ _,fun k hk=>?_⟩
 ·simp
  omega
 ·rintro w2 x v hk rfl
  exact u6 a v E _ w2 (cell_of (by simp) (hk _ (.inl rfl))) (cell_of ((al w _).cell hl6 (fun h=>h) |>.trans k6) (hk _ (.inr rfl)))
 ·rcases hk with rfl|rfl
  ·exact .inl (Nat.le_refl _)
  ·exact .inr (by decide)
def Ak (hi:Int) (v:ByteArray):Nat:=kT 0 hi 4 v.size
theorem rC (hi:Int) (v:ByteArray) (lb:Nat) (E:Nat→Addr) (w:World) (h0:w.cell? ⟨lb,5,none⟩=some (.int .i64 hi)) (g4:w.cell? ⟨4,0,none⟩=some (ba E 4)) :
  Calls Tryz.prog 136 #[.string v,.pointer (some ⟨lb,0,none⟩)] w fun e w'=>e = .returned (ba E (Ak hi v))∧Fr (fun _=>False) w w':=by
 go_enter Tryz.func136,Tryz.ntmps136
 go_wp2_with fail
 refine(dx 0 hi 4 E w (by decide)).mono ?_
 rintro e w1 ⟨fv,rfl,K,hF,hf,_⟩
 obtain⟨Fc,caps,rfl,he,hcall⟩:=hF.ex
 have HC:=ae (And.intro (hcall w1 (.int .i64 (v.size:Nat)) (v.size:Nat) (fun _ _=>rfl) rfl) hf)
 clear hcall hF hf
 go_wp2_with fail
 refine(aa HC).1.mono ?_
 rintro e w2 ⟨rfl,hf2⟩
 have HX:=ae ((aa HC).2.trans hf2 (fun _ _ h=>h))
 clear hf2
 go_wp2_with fail
 go_ret
 exact⟨rfl,aa HX⟩
theorem vT (hi:Int) (lb:Nat) (E:Nat→Addr) (w:World) (h0:w.cell? ⟨lb,5,none⟩=some (.int .i64 hi)) (hg:G6 w E):iR dD w (fun k=>k=lb∨k=4) (.func (.func 136) #[] #[.pointer (some ⟨lb,0,none⟩)]) E (Ak hi):=by
 have hl:=ab h0
 have hl4:=ab hg.k4
 refine⟨fun k hk=>?_,fun v=>by simp only[Ak,kT];split <;> omega,_,_,rfl,fun _ W=>enters Tryz.func136 rfl rfl _ W,?_⟩
 ·rcases hk with rfl|rfl
  ·exact hl
  ·exact hl4
 ·rintro w2 x v hk rfl
  exact rC hi v lb E w2 (cell_of h0 (hk _ (.inl rfl))) (cell_of hg.k4 (hk _ (.inr rfl)))
theorem addr_add (g o j:Nat):(⟨g,o,none⟩:Addr).add j=⟨g,o+j,none⟩:=by unfold Addr.add;split <;> simp_all
theorem dC.cells {α:Type} {en:World→Value→α→Prop} {w:World} {K:Nat→Prop} {xo:Option Addr} {n c:Nat} {E:Nat→Addr} {rs:List (α→Nat)} (h:dC en w K (.slice xo n c) E rs) :
  ∃ fvs:List Value,fvs.length=rs.length∧(∀ u∈fvs,u.oneCell'=true)∧(∀ (j:Nat) fv r,fvs[j]?=some fv→rs[j]?=some r→iR en w K fv E r)∧∀ g o,xo=some ⟨g,o,none⟩→∀ (j:Nat) fv,fvs[j]?=some fv→w.cell? ⟨g,o+j,none⟩=some fv:=by
 cases rs with
 | nil=>exact⟨[],rfl,fun u hu=>by simp at hu,fun j fv r hf=>by simp at hf,fun g o _ j fv hf=>by simp at hf⟩
 | cons r0 rs' =>
  obtain⟨g,o,_,hxo,_,_,_⟩:=h.cell xo n c rfl 0 r0 rfl
  have hc:∀ (j:Nat) r,(r0::rs')[j]?=some r→∃ fv,w.cell? ⟨g,o+j,none⟩=some fv∧iR en w K fv E r:=fun j r hr=>by
   obtain⟨g',o',fv,h1,_,h3,h4⟩:=h.cell xo n c rfl j r hr
   rw[hxo] at h1
   obtain⟨rfl,rfl⟩:g=g'∧o=o':=by simpa using h1
   exact⟨fv,h3,h4⟩
  have hl:∀ j,j<(r0::rs').length→∃ r fv,(r0::rs')[j]?=some r∧w.cell? ⟨g,o+j,none⟩=some fv∧iR en w K fv E r:=fun j hj=>by
   obtain⟨fv,h3,h4⟩:=hc j _ (List.getElem?_eq_getElem hj)
   exact⟨_,fv,List.getElem?_eq_getElem hj,h3,h4⟩
  have key:∀ (j:Nat) fv,((List.range (r0::rs').length).map fun j=>(w.cell? ⟨g,o+j,none⟩).getD .nilIface)[j]?=some fv→j<(r0::rs').length∧w.cell? ⟨g,o+j,none⟩=some fv:=fun j fv hf=>by
   have hj:j<(r0::rs').length:=by
    have:=(List.getElem?_eq_some_iff.1 hf).1
    simpa using this
   rw[List.getElem?_map,List.getElem?_range hj] at hf
   simp only[Option.map_some,Option.some.injEq] at hf
   obtain⟨r,fv',_,h2,_⟩:=hl j hj
   rw[h2] at hf
   exact⟨hj,by rw[h2];simpa using hf⟩
  refine⟨(List.range (r0::rs').length).map fun j=>(w.cell? ⟨g,o+j,none⟩).getD .nilIface,by simp,fun u hu=>?_,fun j fv r hf hr=>?_,fun g' o' e j fv hf=>?_⟩
  ·obtain⟨j,hj⟩:=List.mem_iff_getElem?.1 hu
   obtain⟨hj1,hj2⟩:=key j u hj
   obtain⟨r,fv,_,h2,h3⟩:=hl j hj1
   rw[h2] at hj2
   obtain rfl:=Option.some.inj hj2
   obtain⟨Fc,caps,rfl,_⟩:=h3.ex
   rfl
  ·obtain⟨hj1,hj2⟩:=key j fv hf
   obtain⟨fv',h3,h4⟩:=hc j r hr
   rw[h3] at hj2
   obtain rfl:=Option.some.inj hj2
   exact h4
  ·rw[hxo] at e
   obtain⟨rfl,rfl⟩:g=g'∧o=o':=by simpa using e
   exact(key j fv hf).2
theorem Tryz.sS:(Tryz.prog.info? 281).map (fun i=>(i.zero,i.size,i.bytes))=some (some .nilFunc,1,8):=by kernel_rfl
theorem oX (w:World) (K0 K:Nat→Prop) (fv:Value) (E:Nat→Addr) (r0:ByteArray→Nat) (rs:List (ByteArray→Nat)) (xo:Option Addr) (xc:Nat) (h0:iR dD w K0 fv E r0) (h:dC dD w K (.slice xo rs.length xc) E rs) (hn:rs.length<1000) :
  ∃ ao cp w2,(Builtin.append_ #[285,285] 285 #[.slice (some ⟨w.heap.size,0,none⟩) 1 1,.slice xo rs.length xc]).run Tryz.prog (w.alloc (.cells #[fv] 281)) = .ok (.slice ao (r0::rs).length cp) w2∧Fr (fun _=>False) w w2∧dC dD w2 (fun k=>K0 k∨K k∨w.heap.size≤k∧k<w2.heap.size) (.slice ao (r0::rs).length cp) E (r0::rs):=by
 obtain⟨i0,hi,hz0,hz1,hz2⟩:=info_parts Tryz.sS
 have hown:(w.alloc (.cells #[fv] 281)).ownsRow w.heap.size 281 1 (.slice (some ⟨w.heap.size,0,none⟩) 1 1) 1 [fv]:=⟨rfl,.inr ⟨w.heap.size,1,#[fv],rfl,Nat.le_refl _,heap_alloc_new _ _,by decide,by decide,rfl,rfl⟩⟩
 obtain⟨fvs,hl,h1,hF,hcell⟩:=h.cells
 have hfin:∀ (v':Value) (w2:World),w2.ownsRow w.heap.size 281 1 v' (1+rs.length) ([fv]++fvs)→Fr (fun _=>False) w w2→∃ ao cp,v' = .slice ao (r0::rs).length cp∧dC dD w2 (fun k=>K0 k∨K k∨w.heap.size≤k∧k<w2.heap.size) (.slice ao (r0::rs).length cp) E (r0::rs):=by
  intro v' w2 ho hf
  have ho2:=ho.2
  rcases ho2 with ⟨_,e⟩|⟨g,cap,cur,rfl,_⟩
  ·omega
  have hlt:∀ k,(K0 k∨K k∨w.heap.size≤k∧k<w2.heap.size)→k<w2.heap.size:=fun k hk=>by
   rcases hk with hk|hk|hk
   ·exact Nat.lt_of_lt_of_le (h0.lt k hk) hf.size
   ·exact Nat.lt_of_lt_of_le (h.lt k hk) hf.size
   ·exact hk.2
  refine⟨some ⟨g,0,none⟩,cap,by simp[Nat.add_comm],hlt,⟨_,_,rfl⟩,fun _ _ _ e=>.inr ⟨g,0,by cases e;rfl⟩,fun xo' n' c' e j r hr=>?_⟩
  have ex:xo'=some ⟨g,0,none⟩:=by cases e;rfl
  have hg:=ho.lt g rfl
  have hcs:∀ (j:Nat) u,([fv]++fvs)[j]?=some u→w2.cell? ⟨g,0+j,none⟩=some u:=fun j u hu=>by
   have:=ho.cells (g:=g) rfl j u hu
   rwa [addr_add] at this
  cases j with
  | zero =>
   obtain rfl:r0=r:=by simpa using hr
   exact⟨g,0,fv,ex,.inr (.inr hg),hcs 0 fv rfl,h0.mono (fun k hk=>hf.block k (h0.lt k hk) (fun h=>h)) (fun k hk=>.inl hk) hlt⟩
  | succ j =>
   have hr':rs[j]?=some r:=by simpa using hr
   have hj:j<fvs.length:=by rw[hl];exact(List.getElem?_eq_some_iff.1 hr').1
   have hfv:fvs[j]?=some fvs[j]:=List.getElem?_eq_getElem hj
   exact⟨g,0,fvs[j],ex,.inr (.inr hg),hcs (j+1) _ (by simp),(hF j _ r hfv hr').mono (fun k hk=>hf.block k (h.lt k hk) (fun h=>h)) (fun k hk=>.inr (.inl hk)) hlt⟩
 have hbox:Fr (fun _=>False) w (w.alloc (.cells #[fv] 281)):=al w _
 rcases h.nz _ _ _ rfl with ⟨rfl,hn0,rfl⟩|⟨g,o,rfl⟩
 ·have hr:=run_append_owned_none (P:=Tryz.prog) (w.alloc (.cells #[fv] 281)) w.heap.size 285 285 281 i0 1 Tryz.underlying285 hi _ 1 [fv] hown
  have e0:fvs=[]:=List.eq_nil_of_length_eq_zero (by omega)
  obtain⟨ao,cp,e,hRu⟩:=hfin _ _ (by rw[hn0,e0];exact hown) hbox
  refine⟨ao,cp,_,?_,hbox,hRu⟩
  rw[← e,hn0]
  exact hr
 ·obtain⟨v',w',hr,h2,h3,_,h5⟩:=run_append_own_at (P:=Tryz.prog) (w:=w.alloc (.cells #[fv] 281)) w.heap.size 285 285 281 i0 .nilFunc 1 8 Tryz.underlying285 hi hz0 hz1 hz2 rfl (by decide) (.slice (some ⟨w.heap.size,0,none⟩) 1 1) 1 [fv] hown ⟨g,o,none⟩ rs.length xc fvs (by omega) (fun j u hu=>by
    rw[addr_add]
    have hc:=hcell g o rfl j u hu
    exact(hbox.cell (ab hc) (fun h=>h)).trans hc) h1 (by simp only[maxLen];omega) (by omega) (by simp)
  have hf:Fr (fun _=>False) w w':=hbox.grown h3 (fun k hk=>.inr (by simp[Value.ownBlock] at hk;omega))
  obtain⟨ao,cp,rfl,hRu⟩:=hfin v' w' h2 hf
  exact⟨ao,cp,w',hr,hf,hRu⟩
theorem Tryz.rW:(Tryz.prog.info? 294).map (fun i=>(i.zero,i.size,i.bytes))=some (some .nilFunc,1,8):=by kernel_rfl
theorem pA (w:World) (K0 K:Nat→Prop) (fv:Value) (E:Nat→Addr) (r0:(List Nat)→Nat) (rs:List ((List Nat)→Nat)) (xo:Option Addr) (xc:Nat) (h0:iR eD w K0 fv E r0) (h:dC eD w K (.slice xo rs.length xc) E rs) (hn:rs.length<1000) :
  ∃ ao cp w2,(Builtin.append_ #[291,291] 291 #[.slice (some ⟨w.heap.size,0,none⟩) 1 1,.slice xo rs.length xc]).run Tryz.prog (w.alloc (.cells #[fv] 294)) = .ok (.slice ao (r0::rs).length cp) w2∧Fr (fun _=>False) w w2∧dC eD w2 (fun k=>K0 k∨K k∨w.heap.size≤k∧k<w2.heap.size) (.slice ao (r0::rs).length cp) E (r0::rs):=by
 obtain⟨i0,hi,hz0,hz1,hz2⟩:=info_parts Tryz.rW
 have hown:(w.alloc (.cells #[fv] 294)).ownsRow w.heap.size 294 1 (.slice (some ⟨w.heap.size,0,none⟩) 1 1) 1 [fv]:=⟨rfl,.inr ⟨w.heap.size,1,#[fv],rfl,Nat.le_refl _,heap_alloc_new _ _,by decide,by decide,rfl,rfl⟩⟩
 obtain⟨fvs,hl,h1,hF,hcell⟩:=h.cells
 have hfin:∀ (v':Value) (w2:World),w2.ownsRow w.heap.size 294 1 v' (1+rs.length) ([fv]++fvs)→Fr (fun _=>False) w w2→∃ ao cp,v' = .slice ao (r0::rs).length cp∧dC eD w2 (fun k=>K0 k∨K k∨w.heap.size≤k∧k<w2.heap.size) (.slice ao (r0::rs).length cp) E (r0::rs):=by
  intro v' w2 ho hf
  have ho2:=ho.2
  rcases ho2 with ⟨_,e⟩|⟨g,cap,cur,rfl,_⟩
  ·omega
  have hlt:∀ k,(K0 k∨K k∨w.heap.size≤k∧k<w2.heap.size)→k<w2.heap.size:=fun k hk=>by
   rcases hk with hk|hk|hk
   ·exact Nat.lt_of_lt_of_le (h0.lt k hk) hf.size
   ·exact Nat.lt_of_lt_of_le (h.lt k hk) hf.size
   ·exact hk.2
  refine⟨some ⟨g,0,none⟩,cap,by simp[Nat.add_comm],hlt,⟨_,_,rfl⟩,fun _ _ _ e=>.inr ⟨g,0,by cases e;rfl⟩,fun xo' n' c' e j r hr=>?_⟩
  have ex:xo'=some ⟨g,0,none⟩:=by cases e;rfl
  have hg:=ho.lt g rfl
  have hcs:∀ (j:Nat) u,([fv]++fvs)[j]?=some u→w2.cell? ⟨g,0+j,none⟩=some u:=fun j u hu=>by
   have:=ho.cells (g:=g) rfl j u hu
   rwa [addr_add] at this
  cases j with
  | zero =>
   obtain rfl:r0=r:=by simpa using hr
   exact⟨g,0,fv,ex,.inr (.inr hg),hcs 0 fv rfl,h0.mono (fun k hk=>hf.block k (h0.lt k hk) (fun h=>h)) (fun k hk=>.inl hk) hlt⟩
  | succ j =>
   have hr':rs[j]?=some r:=by simpa using hr
   have hj:j<fvs.length:=by rw[hl];exact(List.getElem?_eq_some_iff.1 hr').1
   have hfv:fvs[j]?=some fvs[j]:=List.getElem?_eq_getElem hj
   exact⟨g,0,fvs[j],ex,.inr (.inr hg),hcs (j+1) _ (by simp),(hF j _ r hfv hr').mono (fun k hk=>hf.block k (h.lt k hk) (fun h=>h)) (fun k hk=>.inr (.inl hk)) hlt⟩
 have hbox:Fr (fun _=>False) w (w.alloc (.cells #[fv] 294)):=al w _
 rcases h.nz _ _ _ rfl with ⟨rfl,hn0,rfl⟩|⟨g,o,rfl⟩
 ·have hr:=run_append_owned_none (P:=Tryz.prog) (w.alloc (.cells #[fv] 294)) w.heap.size 291 291 294 i0 1 Tryz.underlying291 hi _ 1 [fv] hown
  have e0:fvs=[]:=List.eq_nil_of_length_eq_zero (by omega)
  obtain⟨ao,cp,e,hRu⟩:=hfin _ _ (by rw[hn0,e0];exact hown) hbox
  refine⟨ao,cp,_,?_,hbox,hRu⟩
  rw[← e,hn0]
  exact hr
 ·obtain⟨v',w',hr,h2,h3,_,h5⟩:=run_append_own_at (P:=Tryz.prog) (w:=w.alloc (.cells #[fv] 294)) w.heap.size 291 291 294 i0 .nilFunc 1 8 Tryz.underlying291 hi hz0 hz1 hz2 rfl (by decide) (.slice (some ⟨w.heap.size,0,none⟩) 1 1) 1 [fv] hown ⟨g,o,none⟩ rs.length xc fvs (by omega) (fun j u hu=>by
    rw[addr_add]
    have hc:=hcell g o rfl j u hu
    exact(hbox.cell (ab hc) (fun h=>h)).trans hc) h1 (by simp only[maxLen];omega) (by omega) (by simp)
  have hf:Fr (fun _=>False) w w':=hbox.grown h3 (fun k hk=>.inr (by simp[Value.ownBlock] at hk;omega))
  obtain⟨ao,cp,rfl,hRu⟩:=hfin v' w' h2 hf
  exact⟨ao,cp,w',hr,hf,hRu⟩
theorem Tryz.sy:(Tryz.prog.info? 255).map (fun i=>(i.zero,i.size,i.bytes))=some (some .nilFunc,1,8):=by kernel_rfl
theorem oZ (w:World) (K0 K:Nat→Prop) (fv:Value) (E:Nat→Addr) (r0:Int→Nat) (rs:List (Int→Nat)) (xo:Option Addr) (xc:Nat) (h0:iR dm w K0 fv E r0) (h:dC dm w K (.slice xo rs.length xc) E rs) (hn:rs.length<1000) :
  ∃ ao cp w2,(Builtin.append_ #[278,278] 278 #[.slice (some ⟨w.heap.size,0,none⟩) 1 1,.slice xo rs.length xc]).run Tryz.prog (w.alloc (.cells #[fv] 255)) = .ok (.slice ao (r0::rs).length cp) w2∧Fr (fun _=>False) w w2∧dC dm w2 (fun k=>K0 k∨K k∨w.heap.size≤k∧k<w2.heap.size) (.slice ao (r0::rs).length cp) E (r0::rs):=by
 obtain⟨i0,hi,hz0,hz1,hz2⟩:=info_parts Tryz.sy
 have hown:(w.alloc (.cells #[fv] 255)).ownsRow w.heap.size 255 1 (.slice (some ⟨w.heap.size,0,none⟩) 1 1) 1 [fv]:=⟨rfl,.inr ⟨w.heap.size,1,#[fv],rfl,Nat.le_refl _,heap_alloc_new _ _,by decide,by decide,rfl,rfl⟩⟩
 obtain⟨fvs,hl,h1,hF,hcell⟩:=h.cells
 have hfin:∀ (v':Value) (w2:World),w2.ownsRow w.heap.size 255 1 v' (1+rs.length) ([fv]++fvs)→Fr (fun _=>False) w w2→∃ ao cp,v' = .slice ao (r0::rs).length cp∧dC dm w2 (fun k=>K0 k∨K k∨w.heap.size≤k∧k<w2.heap.size) (.slice ao (r0::rs).length cp) E (r0::rs):=by
  intro v' w2 ho hf
  have ho2:=ho.2
  rcases ho2 with ⟨_,e⟩|⟨g,cap,cur,rfl,_⟩
  ·omega
  have hlt:∀ k,(K0 k∨K k∨w.heap.size≤k∧k<w2.heap.size)→k<w2.heap.size:=fun k hk=>by
   rcases hk with hk|hk|hk
   ·exact Nat.lt_of_lt_of_le (h0.lt k hk) hf.size
   ·exact Nat.lt_of_lt_of_le (h.lt k hk) hf.size
   ·exact hk.2
  refine⟨some ⟨g,0,none⟩,cap,by simp[Nat.add_comm],hlt,⟨_,_,rfl⟩,fun _ _ _ e=>.inr ⟨g,0,by cases e;rfl⟩,fun xo' n' c' e j r hr=>?_⟩
  have ex:xo'=some ⟨g,0,none⟩:=by cases e;rfl
  have hg:=ho.lt g rfl
  have hcs:∀ (j:Nat) u,([fv]++fvs)[j]?=some u→w2.cell? ⟨g,0+j,none⟩=some u:=fun j u hu=>by
   have:=ho.cells (g:=g) rfl j u hu
   rwa [addr_add] at this
  cases j with
  | zero =>
   obtain rfl:r0=r:=by simpa using hr
   exact⟨g,0,fv,ex,.inr (.inr hg),hcs 0 fv rfl,h0.mono (fun k hk=>hf.block k (h0.lt k hk) (fun h=>h)) (fun k hk=>.inl hk) hlt⟩
  | succ j =>
   have hr':rs[j]?=some r:=by simpa using hr
   have hj:j<fvs.length:=by rw[hl];exact(List.getElem?_eq_some_iff.1 hr').1
   have hfv:fvs[j]?=some fvs[j]:=List.getElem?_eq_getElem hj
   exact⟨g,0,fvs[j],ex,.inr (.inr hg),hcs (j+1) _ (by simp),(hF j _ r hfv hr').mono (fun k hk=>hf.block k (h.lt k hk) (fun h=>h)) (fun k hk=>.inr (.inl hk)) hlt⟩
 have hbox:Fr (fun _=>False) w (w.alloc (.cells #[fv] 255)):=al w _
 rcases h.nz _ _ _ rfl with ⟨rfl,hn0,rfl⟩|⟨g,o,rfl⟩
 ·have hr:=run_append_owned_none (P:=Tryz.prog) (w.alloc (.cells #[fv] 255)) w.heap.size 278 278 255 i0 1 Tryz.underlying278 hi _ 1 [fv] hown
  have e0:fvs=[]:=List.eq_nil_of_length_eq_zero (by omega)
  obtain⟨ao,cp,e,hRu⟩:=hfin _ _ (by rw[hn0,e0];exact hown) hbox
  refine⟨ao,cp,_,?_,hbox,hRu⟩
  rw[← e,hn0]
  exact hr
 ·obtain⟨v',w',hr,h2,h3,_,h5⟩:=run_append_own_at (P:=Tryz.prog) (w:=w.alloc (.cells #[fv] 255)) w.heap.size 278 278 255 i0 .nilFunc 1 8 Tryz.underlying278 hi hz0 hz1 hz2 rfl (by decide) (.slice (some ⟨w.heap.size,0,none⟩) 1 1) 1 [fv] hown ⟨g,o,none⟩ rs.length xc fvs (by omega) (fun j u hu=>by
    rw[addr_add]
    have hc:=hcell g o rfl j u hu
    exact(hbox.cell (ab hc) (fun h=>h)).trans hc) h1 (by simp only[maxLen];omega) (by omega) (by simp)
  have hf:Fr (fun _=>False) w w':=hbox.grown h3 (fun k hk=>.inr (by simp[Value.ownBlock] at hk;omega))
  obtain⟨ao,cp,rfl,hRu⟩:=hfin v' w' h2 hf
  exact⟨ao,cp,w',hr,hf,hRu⟩
theorem fI (c:CS) (nm:ByteArray) (rs:List (Nat→Nat)) (v:Nat) (cb b g i:Nat) (F:Nat→Prop) (E:Nat→Addr) (rx:Value) (w:World) (h:Cd w cb b F c E) (hp:w.cell? ⟨g,i,none⟩=some (.int .u8 (v:Nat))) (hL:Loc w cb F g i) (hv:v<256) (hR:ij dP w F g rx E rs) (hroom:c.room 1) :
  Calls Tryz.prog 127 #[.pointer (some ⟨cb,0,none⟩),.string nm,.pointer (some ⟨g,i,none⟩),rx] w fun e w'=>e = .returned (.tuple #[])∧∃ F',Cd w' cb b F' (c.fe nm rs v).1 E∧w'.cell? ⟨g,i,none⟩=some (.int .u8 ((c.fe nm rs v).2:Nat))∧ar w w' F F' (fun k j=>k=g∧j=i):=by
 have H:=ae (zB c nm rs v 0 cb b g i F E rx w h hp hL hv hR hroom)
 obtain⟨K,hRu,_⟩:=hR.ex
 obtain⟨xo,xc,rfl⟩:=hRu.form
 clear h hp hL hR hRu
 go_enter Tryz.func127,Tryz.ntmps127
 go_wp2_with fail
 refine(aa H).mono ?_
 rintro e w' ⟨rfl,hr⟩
 have HR:=ae hr
 clear hr
 go_wp2_with fail
 go_end0
 exact⟨rfl,aa HR⟩
theorem bJ (c:CS) (nm:ByteArray) (rs:List (Nat→Nat)) (v:Nat) (cb b g i:Nat) (F:Nat→Prop) (E:Nat→Addr) (rx:Value) (w:World) (h:Cd w cb b F c E) (hp:w.cell? ⟨g,i,none⟩=some (.int .u32 (v:Nat))) (hL:Loc w cb F g i) (hv:v<4294967296) (hR:ij dR w F g rx E rs) (hroom:c.room 1) :
  Calls Tryz.prog 130 #[.pointer (some ⟨cb,0,none⟩),.string nm,.pointer (some ⟨g,i,none⟩),rx] w fun e w'=>e = .returned (.tuple #[])∧∃ F',Cd w' cb b F' (c.bL nm rs v).1 E∧w'.cell? ⟨g,i,none⟩=some (.int .u32 ((c.bL nm rs v).2:Nat))∧ar w w' F F' (fun k j=>k=g∧j=i):=by
 have H:=ae (xS c nm rs v 0 cb b g i F E rx w h hp hL hv hR hroom)
 obtain⟨K,hRu,_⟩:=hR.ex
 obtain⟨xo,xc,rfl⟩:=hRu.form
 clear h hp hL hR hRu
 go_enter Tryz.func130,Tryz.ntmps130
 go_wp2_with fail
 refine(aa H).mono ?_
 rintro e w' ⟨rfl,hr⟩
 have HR:=ae hr
 clear hr
 go_wp2_with fail
 go_end0
 exact⟨rfl,aa HR⟩
theorem tg (c:CS) (nm:ByteArray) (rs:List (Nat→Nat)) (v:Nat) (cb b g i:Nat) (F:Nat→Prop) (E:Nat→Addr) (rx:Value) (w:World) (h:Cd w cb b F c E) (hp:w.cell? ⟨g,i,none⟩=some (.float .f32 v)) (hL:Loc w cb F g i) (hv:v<4294967296) (hR:ij im w F g rx E rs) (hroom:c.room 1) :
  Calls Tryz.prog 175 #[.pointer (some ⟨cb,0,none⟩),.string nm,.pointer (some ⟨g,i,none⟩),rx] w fun e w'=>e = .returned (.tuple #[])∧∃ F',Cd w' cb b F' (c.gq nm rs v).1 E∧w'.cell? ⟨g,i,none⟩=some (.float .f32 (c.gq nm rs v).2)∧ar w w' F F' (fun k j=>k=g∧j=i):=by
 have H:=ae (yj c nm rs v 0 cb b g i F E rx w h hp hL hv hR hroom)
 obtain⟨K,hRu,_⟩:=hR.ex
 obtain⟨xo,xc,rfl⟩:=hRu.form
 clear h hp hL hR hRu
 go_enter Tryz.func175,Tryz.ntmps175
 go_wp2_with fail
 refine(aa H).mono ?_
 rintro e w' ⟨rfl,hr⟩
 have HR:=ae hr
 clear hr
 go_wp2_with fail
 go_end0
 exact⟨rfl,aa HR⟩
theorem Loc.aR {w w':World} {cb:Nat} {F:Nat→Prop} {g i:Nat} (h:Loc w cb F g i) (hf:Fr (fun _=>False) w w'):Loc w' cb F g i:=h.aP (ar.bh hf F (fun _ _=>False))
theorem BV.aR {w w':World} {x:Value} {l:List Nat} {F:Nat→Prop} (h:BV w x l F) (hf:Fr (fun _=>False) w w'):BV w' x l F:=h.aP (ar.bh hf F (fun _ _=>False)) (fun _ _ _ _ _ _ h=>h)
theorem cO (a:Addr) (fn:Fn) (f c:Array Value) (m:Mode) (W:World):(store a (.func fn f c) m).run Tryz.prog W=stored Tryz.prog W a (.func fn f c) m:=run_store _ _ _ _ _ rfl
theorem kS {α:Type} (rs:List (α→Nat)) (lo hi:Int) (f:α→Nat) (v:α) (h:fb ((fun v=>cu lo hi (f v))::rs) v=0):(f v:Int)≤hi:=by
 by_cases hc:hi<(f v:Int)
 ·have e:cu lo hi (f v)=2:=by rw[cu,if_pos hc]
  simp[fb,e] at h
 ·omega
theorem eN {w:World} {cb b:Nat} {F K:Nat→Prop} {c:CS} {E:Nat→Addr} {g i:Nat} (h:Cd w cb b F c E) (hL:Loc w cb F g i) (hK:fh w K):∀ k,K k→¬ F k∧k≠g:=fun k hk=>by
 have hlt:=hL.lt
 have hlo:=hL.lo
 rcases hK k hk with h1|h1
 ·exact⟨fun hF=>by have:=h.lt k hF;omega,by omega⟩
 ·exact⟨fun hF=>by have:=h.lo k hF;omega,by omega⟩
theorem uu (c:CS) (nm:ByteArray) (lo hi:Int) (rs:List ((List Nat)→Nat)) (x:Value) (v:(List Nat)) (cb b g i:Nat) (F:Nat→Prop) (E:Nat→Addr) (rx:Value) (w:World) (h:Cd w cb b F c E) (hp:w.cell? ⟨g,i,none⟩=some x) (hB:BV w x v F) (hL:Loc w cb F g i) (hv:v.length<9223372036854775808) (hhi:hi≤32768) (hR:ij eD w F g rx E rs) (hn:rs.length<1000) (hroom:c.room 1) :
  Calls Tryz.prog 141 #[.pointer (some ⟨cb,0,none⟩),.string nm,.pointer (some ⟨g,i,none⟩),.int .i64 lo,.int .i64 hi,rx] w fun e w'=>e = .returned (.tuple #[])∧∃ F' x',Cd w' cb b F' (c.eR nm hi ((fun v=>cu lo hi v.length)::rs) v).1 E∧w'.cell? ⟨g,i,none⟩=some x'∧(((∃ s,c = .wr s)∧x'=x)∨w'.ownsRow w.heap.size 5 1 x' (c.eR nm hi ((fun v=>cu lo hi v.length)::rs) v).2.length (cellsOf (c.eR nm hi ((fun v=>cu lo hi v.length)::rs) v).2))∧(∀ k o m c,x' = .slice (some ⟨k,o,none⟩) m c→¬ F' k)∧ar w w' F F' (fun k j=>k=g∧j=i):=by
 obtain⟨K,hRu,hKa⟩:=hR.ex
 have hgo:∀ (w1:World) (fv:Value) (K0:Nat→Prop),iR eD w1 K0 fv E (fun v=>cu lo hi v.length)→Fr (fun _=>False) w w1→fh w K0→∀ xo xc,rx = .slice xo rs.length xc→∃ ao cp w2,(Builtin.append_ #[291,291] 291 #[.slice (some ⟨w1.heap.size,0,none⟩) 1 1,.slice xo rs.length xc]).run Tryz.prog (w1.alloc (.cells #[fv] 294)) = .ok (.slice ao (rs.length+1) cp) w2 ∧
   Calls Tryz.prog 160 #[.pointer (some ⟨cb,0,none⟩),.string nm,.pointer (some ⟨g,i,none⟩),.int .i64 hi,.slice ao (rs.length+1) cp] w2 fun e w'=>e = .returned (.tuple #[])∧∃ F' x',Cd w' cb b F' (c.eR nm hi ((fun v=>cu lo hi v.length)::rs) v).1 E∧w'.cell? ⟨g,i,none⟩=some x'∧(((∃ s,c = .wr s)∧x'=x)∨w'.ownsRow w.heap.size 5 1 x' (c.eR nm hi ((fun v=>cu lo hi v.length)::rs) v).2.length (cellsOf (c.eR nm hi ((fun v=>cu lo hi v.length)::rs) v).2))∧(∀ k o m c,x' = .slice (some ⟨k,o,none⟩) m c→¬ F' k)∧ar w w' F F' (fun k j=>k=g∧j=i):=by
  intro w1 fv K0 hF hf1 hK0 xo xc e
  subst e
  obtain⟨ao,cp,w2,hr,hf2,hRu2⟩:=pA w1 K0 K fv E _ rs xo xc hF (hRu.fr hf1 (fun _ _ h=>h)) hn
  have hf:=hf1.trans hf2 (fun _ _ h=>h)
  refine⟨ao,cp,w2,hr,?_⟩
  refine(xW c nm ((fun v=>cu lo hi v.length)::rs) x v hi cb b g i F E _ w2 (h.aR hf) ((hf.cell (p:=⟨g,i,none⟩) hL.lt (fun h=>h)).trans hp) (hB.aR hf) (hL.aR hf) hv (by omega) (fun e=>?_) ⟨⟨_,hRu2,fun k hk=>?_⟩,by simp;omega⟩ hroom).mono ?_
  ·have:=kS rs lo hi (fun v:(List Nat)=>v.length) v e
   omega
  ·rcases hk with hk|hk|hk
   ·exact eN h hL hK0 k hk
   ·exact hKa k hk
   ·have h1:=hf1.size
    have h2:=hL.lt
    exact⟨fun hx=>by have:=h.lt k hx;omega,by omega⟩
  ·rintro e w' ⟨rfl,F',x',hC,hcell,hx,hno,hs⟩
   have hs':ar w w' F F' (fun k j=>k=g∧j=i):=(ar.bh hf F _).trans hs (fun _ _ _ h=>h)
   exact⟨rfl,⟨F',x',hC,hcell,hx.imp id (fun ho=>ed ho hf.size),hno,hs'⟩⟩
 have HG:=ae hgo
 have HS:=ae (uD lo hi E w h.g7)
 obtain⟨xo,xc,rfl⟩:=hRu.form
 clear hgo h hp hL hR hRu hKa
 go_enter Tryz.func141,Tryz.ntmps141
 go_wp2_with fail
 refine(aa HS).mono ?_
 rintro e w1 ⟨fv,rfl,K0,hF,hf1,hK0⟩
 obtain⟨ao,cp,w2,hr,hcall⟩:=(aa HG) w1 fv K0 hF hf1 hK0 xo xc rfl
 obtain⟨Fc,caps,rfl,_⟩:=hF.ex
 have HR:=ae hr
 have HC:=ae hcall
 clear hF hf1 hK0 hr hcall
 have hsf:=cO
 go_wp2_with (at_builtin;refine br rfl _ _ 291 291 rfl _ _ _ rfl rfl (aa HR) ?_)
 refine(aa HC).mono ?_
 rintro e w' ⟨rfl,hr⟩
 have HX:=ae hr
 clear hr
 go_wp2_with fail
 go_end0
 exact⟨rfl,aa HX⟩
theorem pg (c:CS) (nm:ByteArray) (lo hi:Int) (rs:List (ByteArray→Nat))  (v:ByteArray) (cb b g i:Nat) (F:Nat→Prop) (E:Nat→Addr) (rx:Value) (w:World) (h:Cd w cb b F c E) (hp:w.cell? ⟨g,i,none⟩=some (.string v)) (hL:Loc w cb F g i) (hv:v.size<9223372036854775808) (hhi:hi≤32768) (hR:ij dD w F g rx E rs) (hn:rs.length<1000) (hroom:c.room 1) :
  Calls Tryz.prog 135 #[.pointer (some ⟨cb,0,none⟩),.string nm,.pointer (some ⟨g,i,none⟩),.int .i64 lo,.int .i64 hi,rx] w fun e w'=>e = .returned (.tuple #[])∧∃ F',Cd w' cb b F' (c.dG nm hi ((fun v=>cu lo hi v.size)::rs) v).1 E∧w'.cell? ⟨g,i,none⟩=some (.string (c.dG nm hi ((fun v=>cu lo hi v.size)::rs) v).2)∧ar w w' F F' (fun k j=>k=g∧j=i):=by
 obtain⟨K,hRu,hKa⟩:=hR.ex
 have hgo:∀ (w1:World) (fv:Value) (K0:Nat→Prop),iR dD w1 K0 fv E (fun v=>cu lo hi v.size)→Fr (fun _=>False) w w1→fh w K0→∀ xo xc,rx = .slice xo rs.length xc→∃ ao cp w2,(Builtin.append_ #[285,285] 285 #[.slice (some ⟨w1.heap.size,0,none⟩) 1 1,.slice xo rs.length xc]).run Tryz.prog (w1.alloc (.cells #[fv] 281)) = .ok (.slice ao (rs.length+1) cp) w2 ∧
   Calls Tryz.prog 157 #[.pointer (some ⟨cb,0,none⟩),.string nm,.pointer (some ⟨g,i,none⟩),.int .i64 hi,.slice ao (rs.length+1) cp] w2 fun e w'=>e = .returned (.tuple #[])∧∃ F',Cd w' cb b F' (c.dG nm hi ((fun v=>cu lo hi v.size)::rs) v).1 E∧w'.cell? ⟨g,i,none⟩=some (.string (c.dG nm hi ((fun v=>cu lo hi v.size)::rs) v).2)∧ar w w' F F' (fun k j=>k=g∧j=i):=by
  intro w1 fv K0 hF hf1 hK0 xo xc e
  subst e
  obtain⟨ao,cp,w2,hr,hf2,hRu2⟩:=oX w1 K0 K fv E _ rs xo xc hF (hRu.fr hf1 (fun _ _ h=>h)) hn
  have hf:=hf1.trans hf2 (fun _ _ h=>h)
  refine⟨ao,cp,w2,hr,?_⟩
  refine(wv c nm ((fun v=>cu lo hi v.size)::rs) v hi cb b g i F E _ w2 (h.aR hf) ((hf.cell (p:=⟨g,i,none⟩) hL.lt (fun h=>h)).trans hp) (hL.aR hf) hv (by omega) (fun e=>?_) ⟨⟨_,hRu2,fun k hk=>?_⟩,by simp;omega⟩ hroom).mono ?_
  ·have:=kS rs lo hi (fun v:ByteArray=>v.size) v e
   omega
  ·rcases hk with hk|hk|hk
   ·exact eN h hL hK0 k hk
   ·exact hKa k hk
   ·have h1:=hf1.size
    have h2:=hL.lt
    exact⟨fun hx=>by have:=h.lt k hx;omega,by omega⟩
  ·rintro e w' ⟨rfl,F',hC,hcell,hs⟩
   have hs':ar w w' F F' (fun k j=>k=g∧j=i):=(ar.bh hf F _).trans hs (fun _ _ _ h=>h)
   exact⟨rfl,⟨F',hC,hcell,hs'⟩⟩
 have HG:=ae hgo
 have HS:=ae (vH lo hi E w h.g7)
 obtain⟨xo,xc,rfl⟩:=hRu.form
 clear hgo h hp hL hR hRu hKa
 go_enter Tryz.func135,Tryz.ntmps135
 go_wp2_with fail
 refine(aa HS).mono ?_
 rintro e w1 ⟨fv,rfl,K0,hF,hf1,hK0⟩
 obtain⟨ao,cp,w2,hr,hcall⟩:=(aa HG) w1 fv K0 hF hf1 hK0 xo xc rfl
 obtain⟨Fc,caps,rfl,_⟩:=hF.ex
 have HR:=ae hr
 have HC:=ae hcall
 clear hF hf1 hK0 hr hcall
 have hsf:=cO
 go_wp2_with (at_builtin;refine br rfl _ _ 285 285 rfl _ _ _ rfl rfl (aa HR) ?_)
 refine(aa HC).mono ?_
 rintro e w' ⟨rfl,hr⟩
 have HX:=ae hr
 clear hr
 go_wp2_with fail
 go_end0
 exact⟨rfl,aa HX⟩
def cC:ByteArray:=⟨#[102,111,114,109]⟩
def cV:ByteArray:=⟨#[99,108,105,101,110,116]⟩
def ep:ByteArray:=⟨#[110,117,109,98,101,114]⟩
def ju:ByteArray:=⟨#[97,99,116,111,114]⟩
def wL:ByteArray:=⟨#[111,112]⟩
def dc:ByteArray:=⟨#[114,101,99,111,114,100]⟩
def cg:ByteArray:=⟨#[118,101,114,115,105,111,110]⟩
def gF:ByteArray:=⟨#[119,97,114,100]⟩
def ig:ByteArray:=⟨#[111,119,110,101,114]⟩
def ak:ByteArray:=⟨#[102,105,101,108,100,115]⟩
def eb:ByteArray:=⟨#[114,101,97,115,111,110]⟩
def bE:ByteArray:=⟨#[110,97,109,101]⟩
def ay:ByteArray:=⟨#[107,105,110,100]⟩
def dW:ByteArray:=⟨#[116,101,120,116]⟩
def cz:ByteArray:=⟨#[118,97,108,117,101]⟩
def dM:ByteArray:=⟨#[117,110,105,116]⟩
def fF:ByteArray:=⟨#[99,111,100,101]⟩
def aK:ByteArray:=⟨#[104,105,115,116,111,114,121]⟩
def eL:ByteArray:=⟨#[97,117,116,104,111,114]⟩
def jx:ByteArray:=⟨#[101,118,101,110,116]⟩
def lP:ByteArray:=⟨#[109,97,110,121]⟩
def jM:ByteArray:=⟨#[103,111,110,101]⟩
def jA:ByteArray:=⟨#[112,108,97,99,101]⟩
def fS:ByteArray:=⟨#[100,105,103,101,115,116]⟩
def cB:ByteArray:=⟨#[115,105,122,101]⟩
def dp:ByteArray:=⟨#[114,111,111,116]⟩
def fQ:ByteArray:=⟨#[107,101,121]⟩
def bW:ByteArray:=⟨#[115,105,103,110,97,116,117,114,101]⟩
def bQ:ByteArray:=⟨#[104,97,115,104,101,115]⟩
def aW:ByteArray:=⟨#[104,97,115,104]⟩
def eW:ByteArray:=⟨#[98,117,115,121]⟩
def ck:ByteArray:=⟨#[108,101,110,103,116,104]⟩
def bk:ByteArray:=⟨#[101,110,100]⟩
def CS.bA (c:CS) (nm:ByteArray) (v:List Nat):CS × List Nat:=c.eR nm 32 [fun v=>cu 1 32 v.length] v
theorem mh (c:CS) (nm:ByteArray) (x:Value) (v:List Nat) (cb b g i:Nat) (F:Nat→Prop) (E:Nat→Addr) (w:World) (h:Cd w cb b F c E) (hp:w.cell? ⟨g,i,none⟩=some x) (hB:BV w x v F) (hL:Loc w cb F g i) (hv:v.length<9223372036854775808) (hroom:c.room 1) :
  Calls Tryz.prog 140 #[.pointer (some ⟨cb,0,none⟩),.string nm,.pointer (some ⟨g,i,none⟩)] w fun e w'=>e = .returned (.tuple #[])∧∃ F' x',Cd w' cb b F' (c.bA nm v).1 E∧w'.cell? ⟨g,i,none⟩=some x'∧(((∃ s,c = .wr s)∧x'=x)∨w'.ownsRow w.heap.size 5 1 x' (c.bA nm v).2.length (cellsOf (c.bA nm v).2))∧(∀ k o m c,x' = .slice (some ⟨k,o,none⟩) m c→¬ F' k)∧ar w w' F F' (fun k j=>k=g∧j=i):=by
 have H:=ae (uu c nm 1 32 [] x v cb b g i F E (.slice none 0 0) w h hp hB hL hv (by decide) (ij.nil _ w F g E) (by decide) hroom)
 clear h hp hB hL
 go_enter Tryz.func140,Tryz.ntmps140
 go_wp2_with fail
 refine(aa H).mono ?_
 rintro e w' ⟨rfl,hr⟩
 have HR:=ae hr
 clear hr
 go_wp2_with fail
 go_end0
 exact⟨rfl,aa HR⟩
theorem tK (c:CS) (x:Value) (v:List Nat) (cb b g i:Nat) (p:Addr) (F:Nat→Prop) (E:Nat→Addr) (w:World) (h:Cd w cb b F c E) (hc:w.cell? p=some (.pointer (some ⟨cb,0,none⟩))) (hp:w.cell? ⟨g,i,none⟩=some x) (hB:BV w x v F) (hL:Loc w cb F g i) (hv:v.length<9223372036854775808) (hroom:c.room 1) :
  Calls Tryz.prog 143 #[.pointer (some ⟨g,i,none⟩),.pointer (some p)] w fun e w'=>e = .returned (.tuple #[])∧∃ F' x',Cd w' cb b F' (c.bA aW v).1 E∧w'.cell? ⟨g,i,none⟩=some x'∧(((∃ s,c = .wr s)∧x'=x)∨w'.ownsRow w.heap.size 5 1 x' (c.bA aW v).2.length (cellsOf (c.bA aW v).2))∧(∀ k o m c,x' = .slice (some ⟨k,o,none⟩) m c→¬ F' k)∧ar w w' F F' (fun k j=>k=g∧j=i):=by
 have H:=ae (mh c aW x v cb b g i F E w h hp hB hL hv hroom)
 clear h hp hB hL
 go_enter Tryz.func143,Tryz.ntmps143
 go_wp2_with fail
 refine(aa H).mono ?_
 rintro e w' ⟨rfl,hr⟩
 have HR:=ae hr
 clear hr
 go_wp2_with fail
 go_end0
 exact⟨rfl,aa HR⟩
theorem CS.lu {c:CS} {n:Nat} (h:c.room (n+1)) (nm:ByteArray) (v:List Nat):(c.bA nm v).1.room n:=
 CS.vj h nm 32 _ v (fun e=>by have:=kS [] 1 32 (fun v:List Nat=>v.length) v e;omega)
theorem Cd.box {w:World} {cb b:Nat} {F:Nat→Prop} {c:CS} {E:Nat→Addr} (h:Cd w cb b F c E) (vs:Array Value) (t:TypeId) (i:Nat):Loc (w.alloc (.cells vs t)) cb F w.heap.size i:=by
 have hl:=ab h.c0
 have hlo:=h.cl
 simp only at hl
 exact⟨by simp,by simp,fun hx=>by have:=h.lt _ hx;omega,by omega,by omega⟩
def dU (m:Int) (rs:List (Int→Nat)):List (Int→Nat):=kT 0 m 2::rs
theorem fR (c:CS) (nm:ByteArray) (n m:Int) (rs:List (Int→Nat)) (cb b:Nat) (F:Nat→Prop) (E:Nat→Addr) (rx:Value) (w:World) (h:Cd w cb b F c E) (hn:n<9223372036854775808) (hm:m<9223372036854775808) (hR:∃ K,dC dm w K rx E rs∧∀ k,K k→¬ F k) (hrs:rs.length<1000) (hroom:c.room 1) (T:TypeId) :
  ∀ (w1:World) (fv:Value) (K0:Nat→Prop),iR dm w1 K0 fv E (kT 0 m 2)→Fr (fun _=>False) (w.alloc (.cells #[.int .i64 n] T)) w1→fh (w.alloc (.cells #[.int .i64 n] T)) K0→∀ xo xc,rx = .slice xo rs.length xc→∃ ao cp w2,(Builtin.append_ #[278,278] 278 #[.slice (some ⟨w1.heap.size,0,none⟩) 1 1,.slice xo rs.length xc]).run Tryz.prog (w1.alloc (.cells #[fv] 255)) = .ok (.slice ao (rs.length+1) cp) w2 ∧
   Calls Tryz.prog 159 #[.pointer (some ⟨cb,0,none⟩),.string nm,.pointer (some ⟨w.heap.size,0,none⟩),.int .i64 m,.slice ao (rs.length+1) cp] w2 fun e w'=>e = .returned (.tuple #[])∧∃ F',Cd w' cb b F' (c.cv nm m (dU m rs) n).1 E∧w'.cell? ⟨w.heap.size,0,none⟩=some (.int .i64 (c.cv nm m (dU m rs) n).2)∧w.heap.size<w'.heap.size∧¬ F' w.heap.size∧ar w w' F F' (fun _ _=>False):=by
 intro w1 fv K0 hF hf1 hK0 xo xc e
 subst e
 obtain⟨K,hRu,hKa⟩:=hR
 have hb:=al w (.cells #[.int .i64 n] T)
 have hsz:(w.alloc (.cells #[.int .i64 n] T)).heap.size=w.heap.size+1:=by simp
 have hf01:=hb.trans hf1 (fun _ _ h=>h)
 obtain⟨ao,cp,w2,hr,hf2,hRu2⟩:=oZ w1 K0 K fv E _ rs xo xc hF (hRu.fr hf01 (fun _ _ h=>h)) hrs
 have hf12:=hf1.trans hf2 (fun _ _ h=>h)
 have hf:=hf01.trans hf2 (fun _ _ h=>h)
 have hng:9≤w.heap.size:=by
  have:=h.cl
  have h2:=ab h.c0
  simp only at h2
  omega
 have hnF:¬ F w.heap.size:=fun hx=>by have:=h.lt _ hx;omega
 have hlt2:w.heap.size<w2.heap.size:=by have:=hf12.size;omega
 have hlc:=ab h.c0
 have hL:Loc w2 cb F w.heap.size 0:=⟨(hf12.frozen (p:=⟨w.heap.size,0,none⟩) (by simp) (fun h=>h)).trans (by simp),hlt2,hnF,by simp only at hlc;omega,hng⟩
 have hp:w2.cell? ⟨w.heap.size,0,none⟩=some (.int .i64 n):=(hf12.cell (p:=⟨w.heap.size,0,none⟩) (by simp) (fun h=>h)).trans (by simp)
 refine⟨ao,cp,w2,hr,?_⟩
 refine(xD c nm (dU m rs) n m cb b w.heap.size 0 F E _ w2 (h.aR hf) hp hL hn hm ⟨⟨_,hRu2,fun k hk=>?_⟩,by simp[dU];omega⟩ hroom).mono ?_
 ·rcases hk with hk|hk|hk
  ·rcases hK0 k hk with h1|h1
   ·exact⟨fun hx=>by have:=h.lt k hx;omega,by omega⟩
   ·exact⟨fun hx=>by have:=h.lo k hx;omega,by omega⟩
  ·exact⟨hKa k hk,by have:=hRu.lt k hk;omega⟩
  ·have h1:=hf1.size
   exact⟨fun hx=>by have:=h.lt k hx;omega,by omega⟩
 ·rintro e w' ⟨rfl,F',hC,hcell,hs⟩
  exact⟨rfl,F',hC,hcell,Nat.lt_of_lt_of_le hlt2 hs.size,hs.nF hlt2 hnF,(ar.bh hf F _).trans hs (fun k j hk h=>by omega)⟩
def dK {α:Type} (each:CS→α→CS × α):CS→List α→CS
 | c,[]=>c
 | c,x::xs=>dK each (each c x).1 xs
theorem rY {α:Type} (each:CS→α→CS × α) (xs:List α):∀ (c:CS) (x:α),dK each c (xs++[x])=(each (dK each c xs) x).1:=by
 induction xs with
 | nil=>intro c x;rfl
 | cons y ys ih=>intro c x;exact ih _ x
theorem sI {α:Type} (each:CS→α→CS × α) (c:CS) (xs:List α) (k:Nat) (x:α) (h:xs[k]?=some x):dK each c (xs.take (k+1))=(each (dK each c (xs.take k)) x).1:=by
 rw[List.take_add_one,h,Option.toList_some,rY]
structure De (w:World) (xo:Option Addr) (xc:Nat) (ps:List (List Nat)) (F:Nat→Prop):Prop where
 cap:ps.length≤xc
 el:∀ (j:Nat) p,ps[j]?=some p→∃ g o x,xo=some ⟨g,o,none⟩∧¬ F g∧w.cell? ⟨g,o+j,none⟩=some x∧BV w x p F∧p.length<9223372036854775808
theorem De.aP {w w':World} {xo:Option Addr} {xc:Nat} {ps:List (List Nat)} {F F':Nat→Prop} {P:Nat→Nat→Prop} (h:De w xo xc ps F) (hs:ar w w' F F' P) (hP:∀ k j,k<w.heap.size→¬ P k j):De w' xo xc ps F':=by
 refine⟨h.cap,fun j p hp=>?_⟩
 obtain⟨g,o,x,h1,h2,h3,h4,h5⟩:=h.el j p hp
 have hlt:=ab h3
 exact⟨g,o,x,h1,hs.nF hlt h2,(hs.oth g (o+j) hlt h2 (hP g _ hlt)).trans h3,h4.aP hs (fun k o m c e i=>hP k i (h4.at_ k o m c e).1),h5⟩
def bg {α:Type} (each:CS→α→CS × α) (z:α):Nat→CS→CS × List α
 | 0,c=>(c,[])
 | n+1,c=>((each (bg each z n c).1 z).1,(bg each z n c).2++[(each (bg each z n c).1 z).2])
theorem nN {α:Type} (each:CS→α→CS × α) (z:α) (c:CS) (n:Nat):(bg each z n c).2.length=n:=by
 induction n with
 | zero=>rfl
 | succ n ih=>simp[bg,ih]
theorem aH {w:World} {base base' e size n:Nat} {v:Value} {xs:List Value} (h:w.ownsRow base e size v n xs) (hb:base'≤base):w.ownsRow base' e size v n xs:=by
 refine⟨h.1,?_⟩
 rcases h.2 with h|⟨g,c,cur,e1,e2,e3⟩
 ·exact .inl h
 ·exact .inr ⟨g,c,cur,e1,Nat.le_trans hb e2,e3⟩
structure iD (w:World) (base:Nat) (x:Value) (ps:List (List Nat)) (F:Nat→Prop):Prop where
 nF:∀ k,x.ownBlock=some k→¬ F k
 us:∃ us:List Value,us.length=ps.length∧w.ownsRow base 23 1 x ps.length us ∧
  (∀ (j:Nat) u p,us[j]?=some u→ps[j]?=some p→w.ownsRow base 5 1 u p.length (cellsOf p)) ∧
  (∀ (j:Nat) u k,us[j]?=some u→u.ownBlock=some k→¬ F k∧x.ownBlock≠some k) ∧
  (∀ (j j':Nat) u u' k,j≠j'→us[j]?=some u→us[j']?=some u'→u.ownBlock=some k→u'.ownBlock≠some k)
theorem iD.nil (w:World) (base:Nat) (F:Nat→Prop):iD w base (.slice none 0 0) [] F:=
 ⟨fun _ h=>(by cases h),[],rfl,⟨rfl,.inl ⟨rfl,rfl⟩⟩,fun j u p h=>by simp at h,fun j u k h=>by simp at h,fun j j' u u' k _ h=>by simp at h⟩
theorem iD.aP {w w':World} {base:Nat} {x:Value} {ps:List (List Nat)} {F F':Nat→Prop} {P:Nat→Nat→Prop} (h:iD w base x ps F) (hs:ar w w' F F' P) (hP:∀ k j,base≤k→k<w.heap.size→¬ P k j):iD w' base x ps F':=by
 obtain⟨us,h1,h2,h3,h4,h5⟩:=h.us
 have hblk:∀ k,base≤k→k<w.heap.size→¬ F k→w'.heap[k]?=w.heap[k]?:=fun k hb hk hF=>hs.block hk hF (fun j=>hP k j hb hk)
 refine⟨fun k hk=>hs.nF (h2.lt k hk).2 (h.nF k hk),us,h1,av h2 (fun k hk=>hblk k (h2.lt k hk).1 (h2.lt k hk).2 (h.nF k hk)),fun j u p hu hp=>?_,fun j u k hu hk=>?_,h5⟩
 ·have ho:=h3 j u p hu hp
  exact av ho (fun k hk=>hblk k (ho.lt k hk).1 (ho.lt k hk).2 (h4 j u k hu hk).1)
 ·have hj:j<ps.length:=by rw[← h1];exact(List.getElem?_eq_some_iff.1 hu).1
  have ho:=h3 j u _ hu (List.getElem?_eq_getElem hj)
  exact⟨hs.nF (ho.lt k hk).2 (h4 j u k hu hk).1,(h4 j u k hu hk).2⟩
theorem iD.aR {w w':World} {base:Nat} {x:Value} {ps:List (List Nat)} {F:Nat→Prop} (h:iD w base x ps F) (hf:Fr (fun _=>False) w w'):iD w' base x ps F:=h.aP (ar.bh hf F (fun _ _=>False)) (fun _ _ _ _ h=>h)
theorem iD.base {w:World} {base base':Nat} {x:Value} {ps:List (List Nat)} {F:Nat→Prop} (h:iD w base x ps F) (hb:base'≤base):iD w base' x ps F:=by
 obtain⟨us,h1,h2,h3,h4,h5⟩:=h.us
 exact⟨h.nF,us,h1,aH h2 hb,fun j u p hu hp=>ed (h3 j u p hu hp) hb,h4,h5⟩
theorem iD.form {w:World} {base:Nat} {x:Value} {ps:List (List Nat)} {F:Nat→Prop} (h:iD w base x ps F):∃ ao cap,x = .slice ao ps.length cap:=by
 obtain⟨us,_,h2,_⟩:=h.us
 have hl:=h2.1
 rcases h2.2 with ⟨rfl,e⟩|⟨g,cap,cur,rfl,_⟩
 ·exact⟨none,0,by rw[e]⟩
 ·exact⟨some ⟨g,0,none⟩,cap,rfl⟩
theorem Tryz.yA:(Tryz.prog.info? 23).map (fun i=>(i.zero,i.size,i.bytes))=some (some (.slice none 0 0),1,24):=by kernel_rfl
theorem iD.app {w:World} {base:Nat} {ao:Option Addr} {cap:Nat} {ps:List (List Nat)} {F:Nat→Prop} (h:iD w base (.slice ao ps.length cap) ps F) (a:Option Addr) (c:Nat) (p:List Nat) (hb:base≤w.heap.size) (hp:w.ownsRow base 5 1 (.slice a p.length c) p.length (cellsOf p)) (hpF:∀ k,(Value.slice a p.length c).ownBlock=some k→¬ F k∧(Value.slice ao ps.length cap).ownBlock≠some k)
  (hne:∀ us,w.ownsRow base 23 1 (.slice ao ps.length cap) ps.length us→∀ (j:Nat) u k,us[j]?=some u→(Value.slice a p.length c).ownBlock=some k→u.ownBlock≠some k) (hF:∀ k,F k→k<w.heap.size) (hl:ps.length<100000) :
  ∃ ao' cap' w2,(Builtin.append_ #[38,38] 38 #[.slice ao ps.length cap,.slice (some ⟨w.heap.size,0,none⟩) 1 1]).run Tryz.prog (w.alloc (.cells #[.slice a p.length c] 23)) = .ok (.slice ao' (ps++[p]).length cap') w2∧iD w2 base (.slice ao' (ps++[p]).length cap') (ps++[p]) F∧Fr (fun k=>(Value.slice ao ps.length cap).ownBlock=some k) w w2:=by
 obtain⟨i0,hi,hz0,hz1,hz2⟩:=info_parts Tryz.yA
 obtain⟨us,h1,h2,h3,h4,h5⟩:=h.us
 have hbx:=al w (.cells #[.slice a p.length c] 23)
 have h2':=av (w':=w.alloc (.cells #[.slice a p.length c] 23)) h2 (fun g hg=>Below.heap_alloc _ _ _ (h2.lt g hg).2)
 obtain⟨v',w',hr,h6,h7,_,h8⟩:=run_append_own_at (P:=Tryz.prog) (w:=w.alloc (.cells #[.slice a p.length c] 23)) base 38 38 23 i0 (.slice none 0 0) 1 24 Tryz.underlying38 hi hz0 hz1 hz2 rfl (by decide) (.slice ao ps.length cap) ps.length us h2' ⟨w.heap.size,0,none⟩ 1 1 [.slice a p.length c] rfl (fun j u hu=>by
  rw[addr_add,World.cell?_alloc_at _ _ _ _ rfl];simpa using hu) (fun u hu=>by simp at hu;subst hu;rfl) (by simp only[maxLen];omega) (by omega) (by simp;omega)
 have hform:∃ ao' cap',v' = .slice ao' (ps++[p]).length cap':=by
  rcases h6.2 with ⟨_,e⟩|⟨g,cap',cur,rfl,_⟩
  ·omega
  ·exact⟨some ⟨g,0,none⟩,cap',by simp⟩
 obtain⟨ao',cap',rfl⟩:=hform
 have hfr:Fr (fun k=>(Value.slice ao ps.length cap).ownBlock=some k) w w':=(hbx.mono (fun _ _ h=>h.elim)).grown h7 (fun k hk=>.inl hk)
 have hown':∀ k,(Value.slice ao' (ps++[p]).length cap').ownBlock=some k→(Value.slice ao ps.length cap).ownBlock=some k∨w.heap.size≤k:=fun k hk=>by
  rcases h8 with e|e
  ·rw[e] at hk;exact .inl hk
  ·rw[e] at hk;cases hk;exact .inr (by simp)
 refine⟨ao',cap',w',hr,⟨fun k hk hx=>?_,us++[.slice a p.length c],by simp[h1],by simpa using h6,fun j u q hu hq=>?_,fun j u k hu hk=>?_,fun j j' u u' k hj hu hu' hk=>?_⟩,hfr⟩
 ·rcases hown' k hk with e|e
  ·exact h.nF k e hx
  ·have:=hF k hx;omega
 ·by_cases hj:j<ps.length
  ·rw[List.getElem?_append_left (by omega)] at hu hq
   have ho:=h3 j u q hu hq
   exact av ho (fun k hk=>hfr.block k (ho.lt k hk).2 (h4 j u k hu hk).2)
  ·have hj2:j=ps.length:=by
    have:=(List.getElem?_eq_some_iff.1 hq).1
    simp at this;omega
   subst hj2
   rw[List.getElem?_append_right (by omega)] at hu
   simp[h1] at hu hq
   subst hu hq
   exact av hp (fun k hk=>hfr.block k (hp.lt k hk).2 (hpF k hk).2)
 ·by_cases hj:j<ps.length
  ·rw[List.getElem?_append_left (by omega)] at hu
   have ho:=h3 j u _ hu (List.getElem?_eq_getElem hj)
   refine⟨(h4 j u k hu hk).1,fun e=>?_⟩
   rcases hown' k e with e2|e2
   ·exact(h4 j u k hu hk).2 e2
   ·have:=(ho.lt k hk).2;omega
  ·rw[List.getElem?_append_right (by omega)] at hu
   have hu':u = .slice a p.length c:=by
    have:=(List.getElem?_eq_some_iff.1 hu).1
    have h0:j - us.length=0:=by simp at this;omega
    rw[h0] at hu;simpa using hu.symm
   subst hu'
   refine⟨(hpF k hk).1,fun e=>?_⟩
   rcases hown' k e with e2|e2
   ·exact(hpF k hk).2 e2
   ·have:=(hp.lt k hk).2;omega
 ·have hlast:∀ (j:Nat) u,(us++[Value.slice a p.length c])[j]?=some u→¬ j<us.length→u = .slice a p.length c:=fun j u hu hj=>by
   rw[List.getElem?_append_right (by omega)] at hu
   have:=(List.getElem?_eq_some_iff.1 hu).1
   have h0:j - us.length=0:=by simp at this;omega
   rw[h0] at hu;simpa using hu.symm
  have hlen:∀ (j:Nat) u,(us++[Value.slice a p.length c])[j]?=some u→j≤us.length:=fun j u hu=>by
   have:=(List.getElem?_eq_some_iff.1 hu).1
   simp at this;omega
  by_cases hj1:j<us.length
  ·by_cases hj2:j'<us.length
   ·rw[List.getElem?_append_left hj1] at hu
    rw[List.getElem?_append_left hj2] at hu'
    exact h5 j j' u u' k hj hu hu' hk
   ·rw[List.getElem?_append_left hj1] at hu
    rw[hlast j' u' hu' hj2]
    intro e
    exact hne us h2 j u k hu e hk
  ·have h8':=hlen j u hu
   have h9':=hlen j' u' hu'
   have hj2:j'<us.length:=by omega
   rw[List.getElem?_append_left hj2] at hu'
   rw[hlast j u hu hj1] at hk
   exact hne us h2 j' u' k hu' hk
theorem lR {w:World} {base e n:Nat} {v:Value} {xs ys:List Value} (h:w.ownsRow base e 1 v n xs) (h':w.ownsRow base e 1 v n ys):xs=ys:=by
  have l1:=h.1
  have l2:=h'.1
  rcases h.2 with ⟨_,h0⟩|⟨g,cap,cur,rfl,_,hg,_,_,_,ht⟩
  · rw[h0] at l1 l2
    exact(List.eq_nil_of_length_eq_zero (by simpa using l1)).trans (List.eq_nil_of_length_eq_zero (by simpa using l2)).symm
  · rcases h'.2 with ⟨e2,_⟩|⟨g',cap',cur',e2,_,hg',_,_,_,ht'⟩
    · cases e2
    · cases e2
      rw[hg] at hg'
      cases hg'
      exact ht.symm.trans ht'
theorem sg {w:World} {base e n k:Nat} {v:Value} {xs:List Value} (h:w.ownsRow base e 1 v n xs) (hk:v.ownBlock=some k):∃ m c,v = .slice (some ⟨k,0,none⟩) m c:=by
  rcases h.2 with ⟨rfl,_⟩|⟨g,cap,cur,rfl,_⟩
  · cases hk
  · cases hk
    exact⟨_,_,rfl⟩
theorem ar.grow {a b c:World} {F G:Nat→Prop} {P:Nat→Nat→Prop} {S:Nat→Prop} (h:ar a b F G P) (hf:Fr S b c) (hS:∀ k,S k→a.heap.size≤k):ar a c F G P:=by
  have hs:=h.fr.size
  refine⟨h.fr.trans hf (fun i hi hx=>by have:=hS i hx;omega),h.new,fun g i hg hF hp=>?_,fun g i hg hF=>?_⟩
  · exact(hf.cell (p:=⟨g,i,none⟩) (by show g<b.heap.size;omega) (fun hx=>by have:=hS g hx;omega)).trans (h.oth g i hg hF hp)
  · exact(hf.frozen (p:=⟨g,i,none⟩) (by show g<b.heap.size;omega) (fun hx=>by have:=hS g hx;omega)).trans (h.fz g i hg hF)
theorem rL (q:Q) (nm:ByteArray) (m:Nat) (cb b g i kb:Nat) (F:Nat→Prop) (E:Nat→Addr) (w:World) (h:Cd w cb b F (.rd q) E) (hm:m≤4096) (hp:w.cell? ⟨g,i,none⟩=some (.slice none 0 0)) (hL:Loc w cb F g i) (hkb:w.cell? ⟨kb,0,none⟩=some (.pointer (some ⟨cb,0,none⟩))) (hkF:¬ F kb) (hkg:kb≠g) :
    Calls Tryz.prog 142 #[.pointer (some ⟨cb,0,none⟩),.string nm,.pointer (some ⟨g,i,none⟩),.int .i64 (m:Nat),.func (.func 143) #[] #[.pointer (some ⟨kb,0,none⟩)],.slice none 0 0] w fun e w'=>e = .returned (.tuple #[])∧∃ F',Cd w' cb b F' (bg (fun c v=>c.bA aW v) [] (min ((q.named nm).go 7 m).2.1 m) ((CS.rd q).cv nm m (dU m []) 0).1).1 E∧∃ x,w'.cell? ⟨g,i,none⟩=some x∧iD w' w.heap.size x (bg (fun c v=>c.bA aW v) [] (min ((q.named nm).go 7 m).2.1 m) ((CS.rd q).cv nm m (dU m []) 0).1).2 F'∧ar w w' F F' (fun k j=>k=g∧j=i):=by
  have k2:=h.g7.k2
  have hl2:=ab k2
  have hsf:=cO
  have hent:∀ (x:Value) (W:World),(callFunc 143 (#[x] ++ #[.pointer (some ⟨kb,0,none⟩)])).run Tryz.prog W = .ok (.enter 143 (#[x] ++ #[.pointer (some ⟨kb,0,none⟩)])) W:=fun _ W=>enters Tryz.func143 rfl rfl _ W
  have hhead:=fR (.rd q) nm 0 m [] cb b F E (.slice none 0 0) w h (by omega) (by omega) ⟨_,dC.nil _ w E,fun _ h=>h.elim⟩ (by decide) (by simp only[CS.room,CS.len];omega) 3
  obtain⟨c1,hc1⟩:∃ c1,c1=((CS.rd q).cv nm m (dU m []) 0).1:=⟨_,rfl⟩
  obtain⟨n,hn⟩:∃ n,n=((q.named nm).go 7 m).2.1:=⟨_,rfl⟩
  have hn1:((CS.rd q).cv nm m (dU m []) 0).2=(n:Int):=by rw[hn];rfl
  have hq1:∃ q',c1 = .rd q':=⟨_,hc1⟩
  have hnlt:n<4294967296:=by rw[hn];exact(q.named nm).go_lt 7 m
  rw[← hc1,hn1] at hhead
  rw[← hc1,← hn]
  clear hc1 hn1 hn
  have HG:=ae hhead
  clear hhead
  obtain⟨N,hN⟩:∃ N,N=min n m:=⟨_,rfl⟩
  rw[← hN]
  have hNm:N≤4096:=by omega
  have HM:=ae hN
  clear hN
  have HW:=ae (dx 0 m 2 E (w.alloc (.cells #[.int .i64 0] 3)) (by decide))
  have H:=ae (And.intro h (And.intro hL (And.intro hkF hq1)))
  have hlp:=hL.lt
  have hlk:=ab hkb
  clear h hL hq1
  go_enter Tryz.func142,Tryz.ntmps142
  go_wp2_with fail
  refine(aa HW).mono ?_
  rintro e w1 ⟨fv,rfl,K0,hF,hf1,hK0⟩
  obtain⟨ao,cp,w2,hr,hcall⟩:=(aa HG) w1 fv K0 hF hf1 hK0 none 0 rfl
  obtain⟨Fc,caps,rfl,_⟩:=hF.ex
  have HR:=ae hr
  have HC:=ae hcall
  clear hF hf1 hK0 hr hcall
  go_wp2_with (at_builtin;refine br rfl _ _ 278 278 rfl _ _ _ rfl rfl (aa HR) ?_)
  refine(aa HC).mono ?_
  rintro e w3 ⟨rfl,F3,hC3,hn3,hlt3,hnF3,hs3⟩
  have hp3:w3.cell? ⟨g,i,none⟩=some (.slice none 0 0):=(hs3.oth g i hlp (aa H).2.1.nF (fun h=>h)).trans hp
  have H3:=ae (And.intro hC3 (And.intro hs3 hp3))
  clear hC3 hs3 hlt3 hnF3 hp3
  by_cases hnm:n≤m
  all_goals
    go_wp2_with fail
    go_loopw [32] (fun iv wr=>∃ (k:Nat) (Fk:Nat→Prop) (x:Value),k≤N∧iv = .int .i64 (k:Nat)∧Cd wr cb b Fk (bg (fun c v=>c.bA aW v) [] k c1).1 E∧(∃ q',(bg (fun c v=>c.bA aW v) [] k c1).1 = .rd q')∧wr.cell? ⟨g,i,none⟩=some x∧iD wr w.heap.size x (bg (fun c v=>c.bA aW v) [] k c1).2 Fk∧ar w wr F Fk (fun k j=>k=g∧j=i)) (fun iv _=>N - (intOf iv).toNat)
    case atStart=>exact⟨0,F3,.slice none 0 0,Nat.zero_le _,rfl,(aa H3).1,(aa H).2.2.2,(aa H3).2.2,iD.nil _ _ _,(aa H3).2.1.mono (fun _ _ _ h=>h.elim)⟩
    case round =>
      obtain⟨k,Fk,x,hk,rfl,hCk,⟨qk,hqk⟩,hxk,hOk,hsk2⟩:=hrel
      by_cases hlt:k<N
      · have hlt':(k:Int)<(n:Int):=by have:=aa HM;omega
        have hltm:(k:Int)<(m:Int):=by have:=aa HM;omega
        have hkr:wr.cell? ⟨kb,0,none⟩=some (.pointer (some ⟨cb,0,none⟩)):=(hsk2.oth kb 0 hlk (aa H).2.2.1 (fun h=>hkg h.1)).trans hkb
        rw[hqk] at hCk
        have h0r:wr.cell? ⟨cb,0,none⟩=some (.pointer none):=hCk.c0
        have h1r:wr.cell? ⟨cb,1,none⟩=some (.pointer (some ⟨b,0,none⟩)):=hCk.c1
        have hlg:=ab hxk
        have hlkr:=ab hkr
        have hlcr:=ab h0r
        have hLk:=(aa H).2.1.aP hsk2
        have HK:=ae (And.intro hCk (And.intro hsk2 (And.intro hOk (And.intro hqk hLk))))
        clear hCk hsk2 hqk hOk hLk
        go_wp2_with fail
        have hbx:=al wr (.cells #[.slice none 0 0] 23)
        refine(tK (.rd qk) (.slice none 0 0) [] cb b wr.heap.size 0 ⟨kb,0,none⟩ Fk E _ ((aa HK).1.aR hbx) ((hbx.cell hlkr (fun h=>h)).trans hkr) (by simp) ⟨.inl ⟨rfl,rfl⟩,fun _ _ _ _ e=>by cases e⟩ ((aa HK).1.box _ _ 0) (by decide) (by simp only[CS.room,CS.len];omega)).mono ?_
        rintro e w4 ⟨rfl,F4,x4,hC4,hx4,hown4,hno4,hs4⟩
        have hown4':w4.ownsRow (wr.alloc (.cells #[.slice none 0 0] 23)).heap.size 5 1 x4 ((CS.rd qk).bA aW []).2.length (cellsOf ((CS.rd qk).bA aW []).2):=by
          rcases hown4 with ⟨⟨s,e⟩,_⟩|ho
          · cases e
          · exact ho
        obtain⟨p,hpv⟩:∃ p,p=((CS.rd qk).bA aW []).2:=⟨_,rfl⟩
        rw[← hpv] at hown4'
        obtain⟨a4,c4,rfl⟩:=di hown4'
        have hs14:ar wr w4 Fk F4 (fun k j=>k=wr.heap.size∧j=0):=(ar.bh hbx Fk _).trans hs4 (fun _ _ _ h=>h)
        have hwb:(wr.alloc (.cells #[.slice none 0 0] 23)).heap.size=wr.heap.size+1:=by simp
        obtain⟨psk,hpsk⟩:∃ psk,psk=(bg (fun c v=>c.bA aW v) [] k c1).2:=⟨_,rfl⟩
        have hOk:=(aa HK).2.2.1
        rw[← hpsk] at hOk
        obtain⟨xo,xc,rfl⟩:=hOk.form
        have hOd:iD w4.drew w.heap.size (.slice xo psk.length xc) psk F4:=(hOk.aP hs14 (fun k j _ hk h=>by omega)).aR (Fr.drew (Fr.refl _ _))
        have hszw:=(aa HK).2.1.size
        have hszr:=hs14.size
        have hxlt:∀ k,(Value.slice xo psk.length xc).ownBlock=some k→k<wr.heap.size:=fun k hk=>by
          obtain⟨us,_,h2,_⟩:=hOk.us
          exact(h2.lt k hk).2
        obtain⟨ao',cap',w6,hr6,hO6,hf6⟩:=hOd.app a4 c4 p (by show w.heap.size≤w4.drew.heap.size;simp;omega) (ed (av hown4' (fun _ _=>rfl)) (by omega)) (fun k hk=>⟨(by obtain⟨m',c',e'⟩:=sg hown4' hk;exact hno4 k 0 m' c' e'),fun e=>by have h1:=hxlt k e;have h2:=(hown4'.lt k hk).1;omega⟩)
          (fun us hus j u kk hu hkk e=>by
            obtain⟨us0,hl0,h2,h3,_⟩:=hOk.us
            have h2':w4.drew.ownsRow w.heap.size 23 1 (.slice xo psk.length xc) psk.length us0:=av h2 (fun kx hkx=>(hs14.block (h2.lt kx hkx).2 (hOk.nF kx hkx) (fun j h=>by have:=(h2.lt kx hkx).2;omega)))
            obtain rfl:=lR hus h2'
            have hj:j<psk.length:=by rw[← hl0];exact(List.getElem?_eq_some_iff.1 hu).1
            have ho:=(h3 j u _ hu (List.getElem?_eq_getElem hj)).lt kk e
            have:=(hown4'.lt kk hkk).1
            omega) (fun k hk=>hC4.lt k hk) (by rw[hpsk,nN];omega)
        rw[List.length_append,List.length_singleton] at hr6 hO6
        have h0w:w4.cell? ⟨cb,1,none⟩=some (.pointer (some ⟨b,0,none⟩)):=hC4.c1
        have hp4:w4.cell? ⟨g,i,none⟩=some (.slice xo psk.length xc):=(hs14.oth g i hlg (aa HK).2.2.2.2.nF (fun h=>by omega)).trans hxk
        have fz4:w4.frozen? ⟨g,i,none⟩=false:=(hs14.fz g i hlg (aa HK).2.2.2.2.nF).trans (aa HK).2.2.2.2.fz
        have hlg4:=ab hp4
        have hlx4:=ab hx4
        have hxlo:∀ k,(Value.slice xo psk.length xc).ownBlock=some k→w.heap.size≤k:=fun k hk=>by
          obtain⟨us,_,h2,_⟩:=hOk.us
          exact(h2.lt k hk).1
        have hp6:w6.cell? ⟨g,i,none⟩=some (.slice xo psk.length xc):=(hf6.cell (p:=⟨g,i,none⟩) hlg4 (fun h=>by have:=hxlo g h;omega)).trans hp4
        have fz6:w6.frozen? ⟨g,i,none⟩=false:=(hf6.frozen (p:=⟨g,i,none⟩) hlg4 (fun h=>by have:=hxlo g h;omega)).trans fz4
        have hf46:Fr (fun k=>(Value.slice xo psk.length xc).ownBlock=some k) w4 w6:=⟨hf6.os,hf6.tape,hf6.output,hf6.size,hf6.block⟩
        have hgF4:¬ F4 g:=hs14.nF hlg (aa HK).2.2.2.2.nF
        have hsW:ar w (w6.setCell ⟨g,i,none⟩ (.slice ao' (psk.length+1) cap')) F F4 (fun k j=>k=g∧j=i):=((((aa HK).2.1.trans hs14 (fun k j hk h=>by omega)).grow hf46 hxlo)).trans (ar.set g i _) (fun _ _ _ h=>h)
        have hC7:Cd (w6.setCell ⟨g,i,none⟩ (.slice ao' (psk.length+1) cap')) cb b F4 ((CS.rd qk).bA aW []).1 E:=
          (hC4.fr hf46 (fun kk hk hS=>hOd.nF kk hS hk) (fun hS=>by have:=hxlo cb hS;have:=ab (aa H).1.c0;simp only at this;omega) (fun kk hS=>by have:=hxlo kk hS;have:=(aa H).2.1.lo;omega)).fr ((Fr.refl (fun kk=>kk=g) _).setCell (.inl rfl) _) (fun kk hk e=>hgF4 (e ▸ hk)) (fun e=>(aa H).2.1.nc e.symm) (fun kk e=>by rw[e];exact(aa H).2.1.lo)
        have hO7:iD (w6.setCell ⟨g,i,none⟩ (.slice ao' (psk.length+1) cap')) w.heap.size (.slice ao' (psk.length+1) cap') (psk++[p]) F4:=hO6.aP (ar.set g i _) (fun kk j hb _ h=>by omega)
        have hc7:(w6.setCell ⟨g,i,none⟩ (.slice ao' (psk.length+1) cap')).cell? ⟨g,i,none⟩=some (.slice ao' (psk.length+1) cap'):=World.cell?_setCell_same _ _ _ hp6
        have e1:(bg (fun c v=>c.bA aW v) [] (k+1) c1).1=((CS.rd qk).bA aW []).1:=by
          show((bg (fun c v=>c.bA aW v) [] k c1).1.bA aW []).1=_
          rw[(aa HK).2.2.2.1]
        have e2:(bg (fun c v=>c.bA aW v) [] (k+1) c1).2=psk++[p]:=by
          show(bg (fun c v=>c.bA aW v) [] k c1).2++[((bg (fun c v=>c.bA aW v) [] k c1).1.bA aW []).2]=_
          rw[(aa HK).2.2.2.1,hpsk,hpv]
        rw[← e1] at hC7
        have hq7:∃ q',(bg (fun c v=>c.bA aW v) [] (k+1) c1).1 = .rd q':=by rw[e1];exact⟨_,rfl⟩
        have hO7':iD (w6.setCell ⟨g,i,none⟩ (.slice ao' (psk.length+1) cap')) w.heap.size (.slice ao' (psk.length+1) cap') (bg (fun c v=>c.bA aW v) [] (k+1) c1).2 F4:=by rw[e2];exact hO7
        have HFIN:=ae (And.intro hC7 (And.intro hq7 (And.intro hc7 (And.intro hO7' hsW))))
        clear hf46 hsW hC7 hO7 hO7' hc7 e1 e2 hq7 hgF4
        have HR6:=ae hr6
        clear hxlo hr6 hO6 hf6 hC4 hs14 hs4 hown4 hown4' hno4 hOk hOd hpv hpsk hxlt hbx
        go_wp2_with fail
        go_region_law (refine gB rfl (.tmp 56) (.tmp 58) 38 38 rfl _ _ _ (by simp[Act.eval]) (by simp[Act.eval]) (aa HR6) ?_)
        all_goals
          go_wp2_with fail
          exact⟨⟨k+1,F4,_,by omega,by go_num,(aa HFIN).1,(aa HFIN).2.1,(aa HFIN).2.2.1,(aa HFIN).2.2.2.1,(aa HFIN).2.2.2.2⟩,by simp[intOf];omega⟩
      · have hkN:k=N:=by omega
        have HK:=ae (And.intro hCk (And.intro hsk2 (And.intro hOk hxk)))
        clear hCk hqk hsk2 hOk
        first
          | (have hlt':¬ (k:Int)<(n:Int):=by have:=aa HM;omega
             go_wp2_with fail)
          | (have hlt':¬ (k:Int)<(m:Int):=by have:=aa HM;omega
             go_wp2_with fail)
        go_end0
        rw[hkN] at HK
        exact⟨rfl,Fk,(aa HK).1,x,(aa HK).2.2.2,(aa HK).2.2.1,(aa HK).2.1⟩
def CS.aE (c:CS) (k:Nat):CS:=(c.fe cC [bC k k 5] k).1
theorem kO {α:Type} {en:World→Value→α→Prop} {w w1:World} {cb b g i:Nat} {F K0:Nat→Prop} {c:CS} {E:Nat→Addr} {r:α→Nat} {fv:Value} (T:TypeId) (h:Cd w cb b F c E) (hL:Loc w cb F g i) (hF:iR en w1 K0 fv E r) (hf:Fr (fun _=>False) w w1) (hK:fh w K0) :
  ij en (w1.alloc (.cells #[fv] T)) F g (.slice (some ⟨w1.heap.size,0,none⟩) 1 1) E [r]:=by
 have hb:=al w1 (.cells #[fv] T)
 have hlt:∀ k,(K0 k∨k=w1.heap.size)→k<(w1.alloc (.cells #[fv] T)).heap.size:=fun k hk=>by
  rcases hk with hk|rfl
  ·exact Nat.lt_of_lt_of_le (hF.lt k hk) hb.size
  ·simp
 refine⟨⟨fun k=>K0 k∨k=w1.heap.size,⟨hlt,⟨_,_,rfl⟩,fun _ _ _ e=>.inr ⟨w1.heap.size,0,by cases e;rfl⟩,fun xo n c' e j r' hr=>?_⟩,fun k hk=>?_⟩,by simp⟩
 ·have ex:xo=some ⟨w1.heap.size,0,none⟩:=by cases e;rfl
  have hj:j=0:=by
   have:=(List.getElem?_eq_some_iff.1 hr).1
   simp at this;exact this
  subst hj
  obtain rfl:r=r':=by simpa using hr
  exact⟨w1.heap.size,0,fv,ex,.inr rfl,by simp,hF.mono (fun k hk=>hb.block k (hF.lt k hk) (fun h=>h)) (fun _ h=>.inl h) hlt⟩
 ·rcases hk with hk|rfl
  ·exact eN h hL hK k hk
  ·have h1:=hf.size
   have h2:=hL.lt
   exact⟨fun hx=>by have:=h.lt _ hx;omega,by omega⟩
theorem eZ (c:CS) (k:Nat) (cb b:Nat) (F:Nat→Prop) (E:Nat→Addr) (w:World) (h:Cd w cb b F c E) (hk:k<256) (hroom:c.room 1) :
  Calls Tryz.prog 107 #[.pointer (some ⟨cb,0,none⟩),.int .u8 (k:Nat)] w fun e w'=>e = .returned (.tuple #[])∧∃ F',Cd w' cb b F' (c.aE k) E∧ar w w' F F' (fun _ _=>False):=by
 have k5:=h.g7.k5
 have hl5:=ab k5
 have hsf:=cO
 have hbx:=al w (.cells #[.int .u8 (k:Nat)] 5)
 have HW:=ae (dA k k 5 E (w.alloc (.cells #[.int .u8 (k:Nat)] 5)) (by decide))
 have hgo:∀ w1 fv K0,iR dP w1 K0 fv E (bC k k 5)→Fr (fun _=>False) (w.alloc (.cells #[.int .u8 (k:Nat)] 5)) w1→fh (w.alloc (.cells #[.int .u8 (k:Nat)] 5)) K0→∀ T,
   Calls Tryz.prog 127 #[.pointer (some ⟨cb,0,none⟩),.string cC,.pointer (some ⟨w.heap.size,0,none⟩),.slice (some ⟨w1.heap.size,0,none⟩) 1 1] (w1.alloc (.cells #[fv] T)) fun e w'=>e = .returned (.tuple #[])∧∃ F',Cd w' cb b F' (c.aE k) E∧ar w w' F F' (fun _ _=>False):=by
  intro w1 fv K0 hF hf hK T
  have hf2:=hf.trans (al w1 (.cells #[fv] T)) (fun _ _ h=>h)
  have hf02:=hbx.trans hf2 (fun _ _ h=>h)
  have hL0:=h.box #[.int .u8 (k:Nat)] 5 0
  refine(fI c cC [bC k k 5] k cb b w.heap.size 0 F E _ _ (h.aR hf02) ((hf2.cell (p:=⟨w.heap.size,0,none⟩) (by simp) (fun h=>h)).trans (by simp)) (hL0.aR hf2) hk (kO T (h.aR hbx) hL0 hF hf hK) hroom).mono ?_
  rintro e w' ⟨rfl,F',hC,_,hs⟩
  exact⟨rfl,F',hC,(ar.bh hf02 F _).trans hs (fun k j hk h=>by omega)⟩
 have HG:=ae hgo
 clear h hgo
 go_enter Tryz.func107,Tryz.ntmps107
 go_wp2_with fail
 refine(aa HW).mono ?_
 rintro e w1 ⟨fv,rfl,K0,hF,hf,hK⟩
 have HX:=ae ((aa HG) w1 fv K0 hF hf hK 241)
 obtain⟨Fc,caps,rfl,_⟩:=hF.ex
 clear hF hf hK
 go_wp2_with fail
 refine(aa HX).mono ?_
 rintro e w' ⟨rfl,hr⟩
 have HR:=ae hr
 clear hr
 go_wp2_with fail
 go_end0
 exact⟨rfl,aa HR⟩
structure n5 (w:World) (x:Value) (l:List Nat) (F:Nat→Prop) (g:Nat):Prop where
 bv:BV w x l F
 ng:∀ k o m c,x = .slice (some ⟨k,o,none⟩) m c→k≠g
 len:l.length<9223372036854775808
theorem n5.aP {w w':World} {x:Value} {l:List Nat} {F F':Nat→Prop} {P:Nat→Nat→Prop} {g:Nat} (h:n5 w x l F g) (hs:ar w w' F F' P) (hP:∀ k i,k<w.heap.size→P k i→k=g):n5 w' x l F' g:=
 ⟨h.bv.aP hs (fun k o m c e i hp=>h.ng k o m c e (hP k i (h.bv.at_ k o m c e).1 hp)),h.ng,h.len⟩
structure BO (w0 w:World) (c:CS) (x':Value) (l':List Nat) (F:Nat→Prop) (g:Nat):Prop where
 bv:n5 w x' l' F g
 val:∀ q,c = .rd q→w.ownsRow w0.heap.size 5 1 x' l'.length (cellsOf l')
theorem BO.aP {w0 w w':World} {c:CS} {x':Value} {l':List Nat} {F F':Nat→Prop} {P:Nat→Nat→Prop} {g:Nat} (h:BO w0 w c x' l' F g) (hs:ar w w' F F' P) (hP:∀ k i,k<w.heap.size→P k i→k=g):BO w0 w' c x' l' F' g:=by
 refine⟨h.bv.aP hs hP,fun q hq=>av (h.val q hq) (fun k hk=>?_)⟩
 obtain⟨m,c',e⟩:=sg (h.val q hq) hk
 have ha:=h.bv.bv.at_ k 0 m c' e
 exact hs.block ha.1 ha.2 (fun j hp=>h.bv.ng k 0 m c' e (hP k j ha.1 hp))
theorem BO.mode {w0 w1 w:World} {c c1:CS} {x':Value} {l':List Nat} {F:Nat→Prop} {g:Nat} (h:BO w1 w c1 x' l' F g) (hs:w0.heap.size≤w1.heap.size) (hm:∀ q,c = .rd q→∃ q',c1 = .rd q'):BO w0 w c x' l' F g:=
 ⟨h.bv,fun q hq=>by obtain⟨q',h1⟩:=hm q hq;exact ed (h.val q' h1) hs⟩
theorem wC {w w':World} {cb b g i:Nat} {c:CS} {E:Nat→Addr} {nm:ByteArray} {m:Int} {rs:List (List Nat→Nat)} {x x':Value} {v:List Nat} {F F':Nat→Prop} (h:Cd w cb b F c E) (hB:n5 w x v F g) (hg:g<w.heap.size) (hs:ar w w' F F' (fun k j=>k=g∧j=i))
  (hx:((∃ s,c = .wr s)∧x'=x)∨w'.ownsRow w.heap.size 5 1 x' (c.eR nm m rs v).2.length (cellsOf (c.eR nm m rs v).2)) (hno:∀ k o m c,x' = .slice (some ⟨k,o,none⟩) m c→¬ F' k):BO w w' c x' (c.eR nm m rs v).2 F' g:=by
 rcases hx with ⟨⟨s,rfl⟩,rfl⟩|hown
 ·exact⟨hB.aP hs (fun k j _ h=>h.1),fun q e=>by cases e⟩
 ·exact⟨⟨⟨bR hown,fun k o m c e=>⟨(hown.lt k (by rw[e];rfl)).2,hno k o m c e⟩⟩,fun k o m c e=>by have:=(hown.lt k (by rw[e];rfl)).1;omega,CS.zj h nm m rs v hB.len⟩,fun _ _=>hown⟩
def CS.dE (c:CS) (v:Nat × List Nat):CS × Nat × List Nat:=(((c.bL cB [] v.1).1.bA dp v.2).1,(c.bL cB [] v.1).2,((c.bL cB [] v.1).1.bA dp v.2).2)
def aC (g o n:Nat) (k j:Nat):Prop:=k=g∧o≤j∧j<o+n
theorem CS.uJ (c:CS) (nm:ByteArray) (rs:List (Nat→Nat)) (v:Nat):∀ q,c = .rd q→∃ q',(c.bL nm rs v).1 = .rd q':=by rintro q rfl;exact⟨_,rfl⟩
theorem qa (c:CS) (size:Nat) (root:List Nat) (x:Value) (cb b g o:Nat) (F:Nat→Prop) (E:Nat→Addr) (w:World) (h:Cd w cb b F c E) (hp0:w.cell? ⟨g,o,none⟩=some (.int .u32 (size:Nat))) (hp1:w.cell? ⟨g,o+1,none⟩=some x) (hB:n5 w x root F g) (hL:∀ i,Loc w cb F g i) (hsz:size<4294967296) (hroom:c.room 2) :
  Calls Tryz.prog 111 #[.pointer (some ⟨cb,0,none⟩),.pointer (some ⟨g,o,none⟩)] w fun e w'=>e = .returned (.tuple #[])∧∃ F',Cd w' cb b F' (c.dE (size,root)).1 E∧w'.cell? ⟨g,o,none⟩=some (.int .u32 ((c.dE (size,root)).2.1:Nat))∧∃ x',w'.cell? ⟨g,o+1,none⟩=some x'∧BO w w' c x' (c.dE (size,root)).2.2 F' g∧ar w w' F F' (aC g o 2):=by
 have H:=ae (And.intro h (And.intro hB hL))
 have HN:=ae (bJ c cB [] size cb b g o F E (.slice none 0 0) w h hp0 (hL o) hsz (ij.nil _ w F g E) (by simp only[CS.room] at *;omega))
 clear h hB hL
 go_enter Tryz.func111,Tryz.ntmps111
 go_wp2_with fail
 refine(aa HN).mono ?_
 rintro e w1 ⟨rfl,F1,hC1,hc1,hs1⟩
 have hgl:=((aa H).2.2 o).lt
 have hgF:=((aa H).2.2 o).nF
 have hB1:=(aa H).2.1.aP hs1 (fun k i _ h=>h.1)
 have hp1':w1.cell? ⟨g,o+1,none⟩=some x:=(hs1.oth g (o+1) hgl hgF (fun h=>by omega)).trans hp1
 have HH:=ae (mh (c.bL cB [] size).1 dp x root cb b g (o+1) F1 E w1 hC1 hp1' hB1.bv (((aa H).2.2 (o+1)).aP hs1) hB1.len (CS.aF (by simpa using hroom) _ _ _))
 have H1:=ae (And.intro hs1 (And.intro hc1 (And.intro hC1 hB1)))
 clear hC1 hs1 hB1 hp1' hc1
 go_wp2_with fail
 refine(aa HH).mono ?_
 rintro e w2 ⟨rfl,F2,x2,hC2,hx2,ho2,hn2,hs2⟩
 have hgl1:=Nat.lt_of_lt_of_le hgl (aa H1).1.size
 have hc2:w2.cell? ⟨g,o,none⟩=some (.int .u32 ((c.bL cB [] size).2:Nat)):=(hs2.oth g o hgl1 ((aa H1).1.nF hgl hgF) (fun h=>by omega)).trans (aa H1).2.1
 have hbo:=(wC (aa H1).2.2.1 (aa H1).2.2.2 hgl1 hs2 ho2 hn2).mode (aa H1).1.size (c.uJ cB [] size)
 have H2:=ae (And.intro hC2 (And.intro hc2 (And.intro hx2 (And.intro hbo (((aa H1).1.mono (P':=aC g o 2) (fun k j _ h=>⟨h.1,by omega,by omega⟩)).trans hs2 (fun k j _ h=>⟨h.1,by omega,by omega⟩))))))
 clear hC2 hc2 hx2 ho2 hn2 hs2 hbo
 go_wp2_with fail
 go_end0
 exact⟨rfl,F2,(aa H2).1,(aa H2).2.1,x2,(aa H2).2.2.1,(aa H2).2.2.2.1,(aa H2).2.2.2.2⟩
def CS.ky (c:CS) (v:Nat × Nat):CS × Nat × Nat:=(((c.bL cV [] v.1).1.bL ep [] v.2).1,(c.bL cV [] v.1).2,((c.bL cV [] v.1).1.bL ep [] v.2).2)
theorem CS.ej {c:CS} {n:Nat} (h:c.room (n+2)) (v:Nat × Nat):(c.ky v).1.room n:=CS.aF (CS.aF h _ _ _) _ _ _
theorem oB (c:CS) (v:Nat × Nat) (cb b g o:Nat) (F:Nat→Prop) (E:Nat→Addr) (w:World) (h:Cd w cb b F c E) (hp0:w.cell? ⟨g,o,none⟩=some (.int .u32 (v.1:Nat))) (hp1:w.cell? ⟨g,o+1,none⟩=some (.int .u32 (v.2:Nat))) (hL:∀ i,Loc w cb F g i) (h1:v.1<4294967296) (h2:v.2<4294967296) (hroom:c.room 2) :
  Calls Tryz.prog 129 #[.pointer (some ⟨cb,0,none⟩),.pointer (some ⟨g,o,none⟩)] w fun e w'=>e = .returned (.tuple #[])∧∃ F',Cd w' cb b F' (c.ky v).1 E∧w'.cell? ⟨g,o,none⟩=some (.int .u32 ((c.ky v).2.1:Nat))∧w'.cell? ⟨g,o+1,none⟩=some (.int .u32 ((c.ky v).2.2:Nat))∧ar w w' F F' (aC g o 2):=by
 have HN:=ae (bJ c cV [] v.1 cb b g o F E (.slice none 0 0) w h hp0 (hL o) h1 (ij.nil _ w F g E) (by simp only[CS.room] at *;omega))
 have hgl:=(hL o).lt
 have hgF:=(hL o).nF
 have H:=ae hL
 clear h hL
 go_enter Tryz.func129,Tryz.ntmps129
 go_wp2_with fail
 refine(aa HN).mono ?_
 rintro e w1 ⟨rfl,F1,hC1,hc1,hs1⟩
 have HM:=ae (bJ (c.bL cV [] v.1).1 ep [] v.2 cb b g (o+1) F1 E (.slice none 0 0) w1 hC1 ((hs1.oth g (o+1) hgl hgF (fun h=>by omega)).trans hp1) (((aa H) (o+1)).aP hs1) h2 (ij.nil _ w1 F1 g E) (CS.aF hroom _ _ _))
 have H1:=ae (And.intro hs1 hc1)
 clear hC1 hs1 hc1
 go_wp2_with fail
 refine(aa HM).mono ?_
 rintro e w2 ⟨rfl,F2,hC2,hc2,hs2⟩
 have H2:=ae (And.intro hC2 (And.intro ((hs2.oth g o (Nat.lt_of_lt_of_le hgl (aa H1).1.size) ((aa H1).1.nF hgl hgF) (fun h=>by omega)).trans (aa H1).2) (And.intro hc2 (((aa H1).1.mono (P':=aC g o 2) (fun k j _ h=>⟨h.1,by omega,by omega⟩)).trans hs2 (fun k j _ h=>⟨h.1,by omega,by omega⟩)))))
 clear hC2 hc2 hs2
 go_wp2_with fail
 go_end0
 exact⟨rfl,F2,(aa H2).1,(aa H2).2.1,(aa H2).2.2.1,(aa H2).2.2.2⟩
theorem pC {c:CS} {nm:ByteArray} {r:Nat→Nat} {v cb b g o:Nat} {F:Nat→Prop} {E:Nat→Addr} {w w1:World} {fv:Value} {K0:Nat→Prop} (T:TypeId) (h:Cd w cb b F c E) (hp:w.cell? ⟨g,o,none⟩=some (.int .u8 (v:Nat))) (hL:Loc w cb F g o) (hv:v<256) (hF:iR dP w1 K0 fv E r) (hf:Fr (fun _=>False) w w1) (hK:fh w K0) (hroom:c.room 1) :
  Calls Tryz.prog 127 #[.pointer (some ⟨cb,0,none⟩),.string nm,.pointer (some ⟨g,o,none⟩),.slice (some ⟨w1.heap.size,0,none⟩) 1 1] (w1.alloc (.cells #[fv] T)) fun e w'=>e = .returned (.tuple #[])∧∃ F',Cd w' cb b F' (c.fe nm [r] v).1 E∧w'.cell? ⟨g,o,none⟩=some (.int .u8 ((c.fe nm [r] v).2:Nat))∧ar w w' F F' (fun k j=>k=g∧j=o):=by
 have hf2:=hf.trans (al w1 (.cells #[fv] T)) (fun _ _ h=>h)
 refine(fI c nm [r] v cb b g o F E _ _ (h.aR hf2) ((hf2.cell (p:=⟨g,o,none⟩) hL.lt (fun h=>h)).trans hp) (hL.aR hf2) hv (kO T h hL hF hf hK) hroom).mono ?_
 rintro e w' ⟨rfl,F',hC,hc,hs⟩
 exact⟨rfl,F',hC,hc,(ar.bh hf2 F _).trans hs (fun _ _ _ h=>h)⟩
theorem x9 {c:CS} {nm:ByteArray} {r:Nat→Nat} {v cb b g o:Nat} {F:Nat→Prop} {E:Nat→Addr} {w w1:World} {fv:Value} {K0:Nat→Prop} (T:TypeId) (h:Cd w cb b F c E) (hp:w.cell? ⟨g,o,none⟩=some (.int .u32 (v:Nat))) (hL:Loc w cb F g o) (hv:v<4294967296) (hF:iR dR w1 K0 fv E r) (hf:Fr (fun _=>False) w w1) (hK:fh w K0) (hroom:c.room 1) :
  Calls Tryz.prog 130 #[.pointer (some ⟨cb,0,none⟩),.string nm,.pointer (some ⟨g,o,none⟩),.slice (some ⟨w1.heap.size,0,none⟩) 1 1] (w1.alloc (.cells #[fv] T)) fun e w'=>e = .returned (.tuple #[])∧∃ F',Cd w' cb b F' (c.bL nm [r] v).1 E∧w'.cell? ⟨g,o,none⟩=some (.int .u32 ((c.bL nm [r] v).2:Nat))∧ar w w' F F' (fun k j=>k=g∧j=o):=by
 have hf2:=hf.trans (al w1 (.cells #[fv] T)) (fun _ _ h=>h)
 refine(bJ c nm [r] v cb b g o F E _ _ (h.aR hf2) ((hf2.cell (p:=⟨g,o,none⟩) hL.lt (fun h=>h)).trans hp) (hL.aR hf2) hv (kO T h hL hF hf hK) hroom).mono ?_
 rintro e w' ⟨rfl,F',hC,hc,hs⟩
 exact⟨rfl,F',hC,hc,(ar.bh hf2 F _).trans hs (fun _ _ _ h=>h)⟩
def CS.qg (c:CS) (v:Nat):CS × Nat:=c.fe fF [bC 0 10 5] v
theorem qd (c:CS) (v cb b g o:Nat) (F:Nat→Prop) (E:Nat→Addr) (w:World) (h:Cd w cb b F c E) (hp:w.cell? ⟨g,o,none⟩=some (.int .u8 (v:Nat))) (hL:Loc w cb F g o) (hv:v<256) (hroom:c.room 1) :
  Calls Tryz.prog 137 #[.pointer (some ⟨cb,0,none⟩),.pointer (some ⟨g,o,none⟩)] w fun e w'=>e = .returned (.tuple #[])∧∃ F',Cd w' cb b F' (c.qg v).1 E∧w'.cell? ⟨g,o,none⟩=some (.int .u8 ((c.qg v).2:Nat))∧ar w w' F F' (fun k j=>k=g∧j=o):=by
 have k5:=h.g7.k5
 have hl5:=ab k5
 have hsf:=cO
 have HW:=ae (dA 0 10 5 E w (by decide))
 have HX:=ae (And.intro h (And.intro hp hL))
 clear h hp hL
 go_enter Tryz.func137,Tryz.ntmps137
 go_wp2_with fail
 refine(aa HW).mono ?_
 rintro e w1 ⟨fv,rfl,K0,hF,hf,hK⟩
 have HN:=ae (pC (nm:=fF) (241) (aa HX).1 (aa HX).2.1 (aa HX).2.2 hv hF hf hK hroom)
 obtain⟨Fc,caps,rfl,_⟩:=hF.ex
 clear hF hf hK
 go_wp2_with fail
 refine(aa HN).mono ?_
 rintro e w' ⟨rfl,hr⟩
 have HR:=ae hr
 clear hr
 go_wp2_with fail
 go_end0
 exact⟨rfl,aa HR⟩
def aN (op:Nat):Nat × Nat × Nat × Nat × Int × Int × Nat:=
 if op=1 then (0,0,4294967295,4294967295,32,0,2) else if op=2 then (4294967295,4294967295,0,0,32,0,3) else if op=3∨op=4 then (4294967295,4294967295,0,0,0,0,0)
 else if op=5 then (4294967295,0,0,0,0,0,0) else if op=6 then (4294967295,1,0,0,0,0,0) else if op=7 then (4294967295,0,0,0,0,64,0) else (0,0,0,0,0,0,0)
def ee (op:Nat):Array Value:=#[.int .u32 ((aN op).1:Nat),.int .u32 ((aN op).2.1:Nat),.int .u32 ((aN op).2.2.1:Nat),.int .u32 ((aN op).2.2.2.1:Nat),.int .i64 (aN op).2.2.2.2.1,.int .i64 (aN op).2.2.2.2.2.1,.int .u8 ((aN op).2.2.2.2.2.2:Nat)]
theorem tP (w:World):Calls Tryz.prog 131 #[.int .u8 1] w fun e w'=>e = .returned (.agg (ee 1))∧Fr (fun _=>False) w w':=by
 go_enter Tryz.func131,Tryz.ntmps131
 go_wp2_with fail
 exact bodyPost_ret (v:=.agg (ee 1)) (by simp[results,Tryz.results131,go_sem,ee,aN]) rfl ⟨rfl,by first|exact al _ _|exact(al _ _).setCell (.inr (Nat.le_refl _)) _⟩
theorem rP (w:World):Calls Tryz.prog 131 #[.int .u8 2] w fun e w'=>e = .returned (.agg (ee 2))∧Fr (fun _=>False) w w':=by
 go_enter Tryz.func131,Tryz.ntmps131
 go_wp2_with fail
 exact bodyPost_ret (v:=.agg (ee 2)) (by simp[results,Tryz.results131,go_sem,ee,aN]) rfl ⟨rfl,by first|exact al _ _|exact(al _ _).setCell (.inr (Nat.le_refl _)) _⟩
theorem sU (w:World):Calls Tryz.prog 131 #[.int .u8 3] w fun e w'=>e = .returned (.agg (ee 3))∧Fr (fun _=>False) w w':=by
 go_enter Tryz.func131,Tryz.ntmps131
 go_wp2_with fail
 exact bodyPost_ret (v:=.agg (ee 3)) (by simp[results,Tryz.results131,go_sem,ee,aN]) rfl ⟨rfl,by first|exact al _ _|exact(al _ _).setCell (.inr (Nat.le_refl _)) _⟩
theorem sB (w:World):Calls Tryz.prog 131 #[.int .u8 4] w fun e w'=>e = .returned (.agg (ee 4))∧Fr (fun _=>False) w w':=by
 go_enter Tryz.func131,Tryz.ntmps131
 go_wp2_with fail
 exact bodyPost_ret (v:=.agg (ee 4)) (by simp[results,Tryz.results131,go_sem,ee,aN]) rfl ⟨rfl,by first|exact al _ _|exact(al _ _).setCell (.inr (Nat.le_refl _)) _⟩
theorem te (w:World):Calls Tryz.prog 131 #[.int .u8 5] w fun e w'=>e = .returned (.agg (ee 5))∧Fr (fun _=>False) w w':=by
 go_enter Tryz.func131,Tryz.ntmps131
 go_wp2_with fail
 exact bodyPost_ret (v:=.agg (ee 5)) (by simp[results,Tryz.results131,go_sem,ee,aN]) rfl ⟨rfl,by first|exact al _ _|exact(al _ _).setCell (.inr (Nat.le_refl _)) _⟩
theorem tN (w:World):Calls Tryz.prog 131 #[.int .u8 6] w fun e w'=>e = .returned (.agg (ee 6))∧Fr (fun _=>False) w w':=by
 go_enter Tryz.func131,Tryz.ntmps131
 go_wp2_with fail
 exact bodyPost_ret (v:=.agg (ee 6)) (by simp[results,Tryz.results131,go_sem,ee,aN]) rfl ⟨rfl,by first|exact al _ _|exact(al _ _).setCell (.inr (Nat.le_refl _)) _⟩
theorem rR (w:World):Calls Tryz.prog 131 #[.int .u8 7] w fun e w'=>e = .returned (.agg (ee 7))∧Fr (fun _=>False) w w':=by
 go_enter Tryz.func131,Tryz.ntmps131
 go_wp2_with fail
 exact bodyPost_ret (v:=.agg (ee 7)) (by simp[results,Tryz.results131,go_sem,ee,aN]) rfl ⟨rfl,by first|exact al _ _|exact(al _ _).setCell (.inr (Nat.le_refl _)) _⟩
theorem pV (op:Nat) (w:World) (h:op=0∨7<op):Calls Tryz.prog 131 #[.int .u8 (op:Nat)] w fun e w'=>e = .returned (.agg (ee op))∧Fr (fun _=>False) w w':=by
 have h1:((op:Int) == 1)=false:=by simp;omega
 have k1:¬ op=1:=by omega
 have h2:((op:Int) == 2)=false:=by simp;omega
 have k2:¬ op=2:=by omega
 have h3:((op:Int) == 3)=false:=by simp;omega
 have k3:¬ op=3:=by omega
 have h4:((op:Int) == 4)=false:=by simp;omega
 have k4:¬ op=4:=by omega
 have h5:((op:Int) == 5)=false:=by simp;omega
 have k5:¬ op=5:=by omega
 have h6:((op:Int) == 6)=false:=by simp;omega
 have k6:¬ op=6:=by omega
 have h7:((op:Int) == 7)=false:=by simp;omega
 have k7:¬ op=7:=by omega
 go_enter Tryz.func131,Tryz.ntmps131
 go_wp2_with fail
 exact bodyPost_ret (v:=.agg (ee op)) (by simp[results,Tryz.results131,go_sem,ee,aN,k1,k2,k3,k4,k5,k6,k7]) rfl ⟨rfl,by first|exact al _ _|exact(al _ _).setCell (.inr (Nat.le_refl _)) _⟩
theorem oK (op:Nat) (w:World):Calls Tryz.prog 131 #[.int .u8 (op:Nat)] w fun e w'=>e = .returned (.agg (ee op))∧Fr (fun _=>False) w w':=by
 by_cases h:op=0∨7<op
 ·exact pV op w h
 ·rcases(by omega:op=1∨op=2∨op=3∨op=4∨op=5∨op=6∨op=7) with rfl|rfl|rfl|rfl|rfl|rfl|rfl
  ·exact tP w
  ·exact rP w
  ·exact sU w
  ·exact sB w
  ·exact te w
  ·exact tN w
  ·exact rR w
structure cj where
 name:ByteArray
 kind:Nat
 text:ByteArray
 value:Nat
 unit:Nat
def cj.vs (f:cj):List Value:=[.string f.name,.int .u8 (f.kind:Nat),.string f.text,.float .f32 f.value,.int .u8 (f.unit:Nat)]
structure cj.ok (f:cj):Prop where
 name:f.name.size<9223372036854775808
 kind:f.kind<256
 text:f.text.size<9223372036854775808
 value:f.value<4294967296
 unit:f.unit<256
def cj.beside (f:cj):Bool:=decide ((f.kind≠1∧f.text.toList≠[])∨(f.kind≠2∧(f.value≠0∨f.unit≠0)))
theorem zf (v:Nat) (w:World):(callFunc 119 #[.float .f32 v]).run Tryz.prog w = .ok (.value (.int .u32 v)) w:=by kernel_rfl
theorem kv (f:cj) (w:World) (h:f.ok):Calls Tryz.prog 174 #[.agg #[.string f.name,.int .u8 (f.kind:Nat),.string f.text,.float .f32 f.value,.int .u8 (f.unit:Nat)]] w fun e w'=>e = .returned (.bool f.beside)∧Fr (fun _=>False) w w':=by
 obtain⟨nm,kd,tx,vl,un⟩:=f
 obtain⟨h1,h2,h3,h4,h5⟩:=h
 simp only at *
 have hfb:=zf
 rcases(by omega:kd=1∨kd=2∨(kd≠1∧kd≠2)) with rfl|rfl|⟨n1,n2⟩
 ·go_enter Tryz.func174,Tryz.ntmps174
  go_wp2_with fail
  all_goals
   go_ret
   refine⟨?_,?_⟩
   ·clear hfb
    by_cases hun:un=0
    ·subst hun
     simp_all [cj.beside]
    ·have hun':((un:Int) != 0)=true:=by simp;omega
     simp_all [cj.beside]
   ·first
     | exact al _ _
     | exact(al _ _).setCell (.inr (Nat.le_refl _)) _
     | exact((al _ _).setCell (.inr (Nat.le_refl _)) _).setCell (.inr (Nat.le_refl _)) _
 ·go_enter Tryz.func174,Tryz.ntmps174
  go_wp2_with fail
  all_goals
   go_ret
   refine⟨?_,?_⟩
   ·clear hfb
    by_cases hun:un=0
    ·subst hun
     simp_all [cj.beside]
    ·have hun':((un:Int) != 0)=true:=by simp;omega
     simp_all [cj.beside]
   ·first
     | exact al _ _
     | exact(al _ _).setCell (.inr (Nat.le_refl _)) _
     | exact((al _ _).setCell (.inr (Nat.le_refl _)) _).setCell (.inr (Nat.le_refl _)) _
 ·have m1:((kd:Int) == 1)=false:=by simp;omega
  have m2:((kd:Int) == 2)=false:=by simp;omega
  go_enter Tryz.func174,Tryz.ntmps174
  go_wp2_with fail
  all_goals
   go_ret
   refine⟨?_,?_⟩
   ·clear hfb
    by_cases hun:un=0
    ·subst hun
     simp_all [cj.beside]
    ·have hun':((un:Int) != 0)=true:=by simp;omega
     simp_all [cj.beside]
   ·first
     | exact al _ _
     | exact(al _ _).setCell (.inr (Nat.le_refl _)) _
     | exact((al _ _).setCell (.inr (Nat.le_refl _)) _).setCell (.inr (Nat.le_refl _)) _
theorem bd {α:Type} : (∀ (l:List α) (i:Nat) (h:i<l.toArray.size),l.toArray[i]'h=l[i]'(by simpa using h))∧(∀ (a:α) (l:List α) (h:0<(a::l).length),(a::l)[0]'h=a)∧(∀ (a:α) (l:List α) (i:Nat) (h:i+1<(a::l).length),(a::l)[i+1]'h=l[i]'(by simpa using h))∧(∀ (l:List α) (i:Nat) (v:α),l.toArray.setIfInBounds i v=(l.set i v).toArray)∧(∀ (a b:α) (l:List α),(a::l).set 0 b=b::l)∧(∀ (a b:α) (l:List α) (i:Nat),(a::l).set (i+1) b=a::l.set i b):=
 ⟨fun _ _ _=>rfl,fun _ _ _=>rfl,fun _ _ _ _=>rfl,fun _ _ _=>List.setIfInBounds_toArray ..,fun _ _ _=>rfl,fun _ _ _ _=>rfl⟩
theorem cK {P:Program} {md:Region.Mode} {ops:Array Oper} {Q:Exit→Act→World→Prop} {S:World→Prop} {i:Nat} {oi:Oper} {v:Value} {fuel:Nat} {listed:Array Bool} {a:Act} {w:World} (hi:ops[i]?=some oi) (hy:YieldsIf P ops S oi v a) (hS:S w)
  (h:wpAnyH P md ops Q S fuel (listed.setIfInBounds i true) (a.put oi.dst v) w) (hs:Region.noSelect ops=true:=by kernel_rfl) (hf:Region.free md ops listed i=true:=by kernel_rfl) (hr:(Region.ready md ops listed).contains i=true:=by kernel_rfl) (hQ:∀ c a w,Q (.panic c) (a.put oi.dst v) w→Q (.panic c) a w:=by exact fun _ _ _ h=>h):wpAnyH P md ops Q S (fuel+1) listed a w:=wpAnyH_take hi hs hf hr hQ hy hS h
theorem gA {P:Program} {md:Region.Mode} {ops:Array Oper} {Q:Exit→Act→World→Prop} {S:World→Prop} {i:Nat} {oi:Oper} {v:Value} {fuel:Nat} {listed:Array Bool} {a:Act} {w:World} (hi:ops[i]?=some oi) (hS:S w)
  (h:wpAnyH P md ops Q S fuel (listed.setIfInBounds i true) (a.put oi.dst v) w) (hy:YieldsIf P ops S oi v a:=by refine Or.inl ⟨by rfl,?_⟩;intro w hSw;(try dsimp only at hSw);go_simp;(try with_reducible rfl)) (hs:Region.noSelect ops=true:=by kernel_rfl) (hf:Region.free md ops listed i=true:=by kernel_rfl) (hr:(Region.ready md ops listed).contains i=true:=by kernel_rfl) (hQ:∀ c a w,Q (.panic c) (a.put oi.dst v) w→Q (.panic c) a w:=by exact fun _ _ _ h=>h):wpAnyH P md ops Q S (fuel+1) listed a w:=wpAnyH_take hi hs hf hr hQ hy hS h
section
variable {P:Program} {ops:Array Oper} {Q:Exit→Act→World→Prop} {md:Region.Mode} {S:World→Prop}
theorem Oper.zQ {o:Oper} {a:Act} {w:World} {K:Act→World→Prop} {Q1 Q2:Exit→Act→World→Prop} (hp:∀ e a w,e≠Exit.normal→Q1 e a w→Q2 e a w) (hh:o.wp P a w K Q1):o.wp P a w K Q2:=by
 have hl:LetsOut Q1→LetsOut Q2:=fun ⟨a,w,h⟩=>⟨a,w,hp _ _ _ (by intro h;cases h) h⟩
 unfold Oper.wp at *
 generalize (execOp a.eval o).run P w=r at *
 cases r with
 | ok n w' =>
  cases n <;> simp only[Oper.upon] at hh ⊢ <;>
   first
    | exact hh
    | exact Calls.mono hh (fun e w'' he=>by cases e <;> first|exact he|exact hp _ _ _ (by intro h;cases h) he|exact hl he)
 | halt x w'=>cases x <;> simp only[Oper.upon] at hh ⊢ <;> first|exact hh|exact hp _ _ _ (by intro h;cases h) hh
theorem yH {Q1 Q2:Exit→Act→World→Prop} (hp:∀ e a w,e≠Exit.normal→Q1 e a w→Q2 e a w) {i:Nat} {K:Act→World→Prop} {a:Act} {w:World} (h:wpOp P ops Q1 i K a w):wpOp P ops Q2 i K a w:=by
 have hl:LetsOut Q1→LetsOut Q2:=fun ⟨a,w,h⟩=>⟨a,w,hp _ _ _ (by intro h;cases h) h⟩
 unfold wpOp at *
 split
 ·simpa[*] using h
 ·rename_i o ho
  simp only[ho] at h
  split
  ·rename_i hw
   simp only[hw,if_true] at h
   exact h.imp (Oper.zQ hp) (fun ⟨h1,h2⟩=>⟨h1,hl h2⟩)
  ·rename_i hw
   simp only[hw] at h
   exact h
def fB (P:Program) (om:Oper) (Q:Exit→Act→World→Prop):Exit→Act→World→Prop
 | .normal,a,w=>om.wp P a w (fun a' w'=>Q .normal a' w') Q
 | e,a,w=>Q e a w
def l6 (md:Region.Mode) (ops:Array Oper):Nat→Nat→Nat→Bool
 | 0,_,_=>false
 | n+1,i,j=>match ops[i]? with
  | some o=>o.after.any fun e=>Region.binds md e && (e.on == j || l6 md ops n e.on j)
  | none=>false
def CF (md:Region.Mode) (ops:Array Oper) (m:Nat):Bool:=(List.range ops.size).all fun j=>j == m || l6 md ops 9 m j
def Cq (ops:Array Oper):Bool:=(List.range ops.size).all fun j=>match ops[j]? with
 | some o=>o.after.all fun e=>decide (e.on<j)
 | none=>true
theorem u7 {om:Oper} : ∀ (e:Exit) (a:Act) (w:World),e≠Exit.normal→fB P om Q e a w→Q e a w:=fun e a w hn h=>by
 cases e <;> first|exact absurd rfl hn|exact h
theorem vG {l:Array Bool} {j:Nat} (h:l.getD j true=false):l.getD j false=false:=by
 rcases Nat.lt_or_ge j l.size with hj|hj
 ·simp[hj] at h ⊢;exact h
 ·simp[Array.getElem?_eq_none hj] at h
def nP (md:Region.Mode) (ops:Array Oper) (l:Array Bool):Prop:=∀ j oj,ops[j]?=some oj→l.getD j false=true→∀ e∈oj.after,Region.binds md e=true→l.getD e.on false=true
theorem nP.set {l:Array Bool} (h:nP md ops l) {i:Nat} (hi:i∈Region.ready md ops l):nP md ops (l.setIfInBounds i true):=fun j oj hj hl e he hb=>by
 by_cases hji:j=i
 ·subst hji
  obtain⟨_,o,ho,h1⟩:=mem_ready.1 hi
  rw[hj] at ho
  cases ho
  exact getD_set_true (h1 e he hb)
 ·rw[getD_set_ne false (Ne.symm hji)] at hl
  exact getD_set_true (h j oj hj hl e he hb)
theorem jr {l:Array Bool} (h:nP md ops l):∀ (n i j:Nat) (o:Oper),ops[i]?=some o→(∀ e∈o.after,Region.binds md e=true→l.getD e.on false=true)→l6 md ops n i j=true→l.getD j false=true
 | 0,_,_,_,_,_,hr=>by cases hr
 | n+1,i,j,o,ho,hd,hr=>by
  simp only[l6,ho] at hr
  obtain⟨e,he,hb⟩:=Array.any_eq_true'.1 hr
  simp only[Bool.and_eq_true,Bool.or_eq_true,beq_iff_eq] at hb
  have h6:=hd e he hb.1
  rcases hb.2 with h7|h7
  ·rw[← h7];exact h6
  ·cases ho2:ops[e.on]? with
   | none =>
    cases n with
    | zero=>cases h7
    | succ n=>simp only[l6,ho2] at h7;cases h7
   | some o2=>exact jr h n e.on j o2 ho2 (fun e2 he2 hb2=>h e.on o2 ho2 h6 e2 he2 hb2) h7
theorem qq {m:Nat} {om:Oper} (hm:ops[m]?=some om) (hgd:om.guard=none) (hcov:CF md ops m=true) (hord:Cq ops=true) :
  ∀ (fuel:Nat) (listed:Array Bool) (a:Act) (w:World),listed.size=ops.size→nP md ops listed→listed.getD m true=false→wpAnyH P md ops (fB P om Q) S fuel (listed.setIfInBounds m true) a w→wpAny P md ops Q (fuel+1) listed a w:=by
 have hne:∀ listed:Array Bool,listed.size=ops.size→listed.getD m true=false→Region.ready md ops listed≠[]:=fun listed hsz hun h0=>by
  have hall:∀ j,listed.getD j true=true:=fun j=>by
   induction j using Nat.strongRecOn with
   | _ j ih =>
    cases hj:listed.getD j true with
    | true=>rfl
    | false =>
     have hjl:j<ops.size:=by
      rcases Nat.lt_or_ge j listed.size with h|h
      ·omega
      ·simp[Array.getElem?_eq_none h] at hj
     have hr:j∈Region.ready md ops listed:=mem_ready.2 ⟨hj,ops[j],Array.getElem?_eq_getElem hjl,fun e he _=>by
      have h1:=List.all_eq_true.1 hord j (List.mem_range.2 hjl)
      rw[Array.getElem?_eq_getElem hjl] at h1
      have h2:=of_decide_eq_true (Array.all_eq_true_iff_forall_mem.1 h1 e he)
      have h3:=ih e.on h2
      have h4:e.on<listed.size:=by omega
      simp[h4] at h3 ⊢
      exact h3⟩
     rw[h0] at hr
     cases hr
  rw[hall m] at hun
  cases hun
 have hend:∀ listed:Array Bool,nP md ops listed→m∈Region.ready md ops listed→Region.ready md ops (listed.setIfInBounds m true)=[]:=fun listed hsh hr=>by
  apply List.eq_nil_iff_forall_not_mem.2
  intro k hk
  obtain⟨h1,ok,hok,_⟩:=mem_ready.1 hk
  obtain⟨h3,om',hom',h4⟩:=mem_ready.1 hr
  rw[hm] at hom'
  cases hom'
  have hkl:k<ops.size:=(Array.getElem?_eq_some_iff.1 hok).1
  by_cases hkm:k=m
  ·subst hkm
   rcases Nat.lt_or_ge k listed.size with h|h
   ·simp[h] at h1
   ·simp[Array.getElem?_eq_none h] at h3
  ·rw[getD_set_ne true (Ne.symm hkm)] at h1
   have h5:=List.all_eq_true.1 hcov k (List.mem_range.2 hkl)
   simp only[Bool.or_eq_true,beq_iff_eq,hkm,false_or] at h5
   have h8:=jr hsh 9 m k om hm (fun e he hb=>h4 e he hb) h5
   rw[vG h1] at h8
   cases h8
 have hop:∀ (K:Act→World→Prop) (a:Act) (w:World),om.wp P a w K Q→wpOp P ops Q m K a w:=fun K a w h=>by
  unfold wpOp
  have hw:Region.wanted om (yielded ops a.tmps)=true:=by simp[Region.wanted,hgd]
  simp only[hm,hw,if_true]
  exact .inl h
 intro fuel
 induction fuel with
 | zero =>
  intro listed a w hsz hsh hun H
  refine⟨fun h0=>absurd h0 (hne listed hsz hun),fun j hj=>?_⟩
  by_cases hjm:j=m
  ·subst hjm
   exact hop _ a w (Oper.wp_mono (fun a' w' h=>⟨hend listed hsh hj,h⟩) H.2)
  ·have:=ready_mono hj hjm
   rw[H.1] at this
   cases this
 | succ fuel ih =>
  intro listed a w hsz hsh hun H
  refine⟨fun h0=>absurd h0 (hne listed hsz hun),fun j hj=>?_⟩
  by_cases hjm:j=m
  ·subst hjm
   exact hop _ a w (Oper.wp_mono (fun a' w' h=>⟨fun _=>h,by rw[hend listed hsh hj];simp⟩) (H.1 (hend listed hsh hj)))
  ·refine wpOp_mono (fun a' w' h=>ih (listed.setIfInBounds j true) a' w' (by simpa using hsz) (hsh.set hj) (by rw[getD_set_ne true hjm];exact hun) ?_) (yH u7 (H.2 j (ready_mono hj hjm)))
   rw[Array.setIfInBounds_comm _ _ hjm]
   exact h.2
theorem bj {id n m:Nat} {om:Oper} {a:Act} {w:World} (hP:P.follows .mixedOrders=true) (hn:ops.size=n+1) (hm:ops[m]?=some om) (hgd:om.guard=none) (hcov:CF .any ops m=true) (hord:Cq ops=true) (hS:S w.drew)
  (h:S w.drew→wpAnyH P .any ops (fB P om Q) S n ((Array.replicate ops.size false).setIfInBounds m true) a w.drew):(Code.region id ops true).wp P Q a w:=by
 refine wp_region_any hP ?_
 rw[hn]
 have hml:m<ops.size:=(Array.getElem?_eq_some_iff.1 hm).1
 have h1:=h hS
 rw[hn] at h1
 have hml2:m<n+1:=by omega
 exact qq hm hgd hcov hord n (Array.replicate (n+1) false) a w.drew (by simp[hn]) (fun j oj _ hl=>by
  rcases Nat.lt_or_ge j (n+1) with h3|h3 <;> simp[h3] at hl) (by simp[hml2]) h1
end
end Go.Proofs.YtdcopmkgmbiikaaGreatDoor
