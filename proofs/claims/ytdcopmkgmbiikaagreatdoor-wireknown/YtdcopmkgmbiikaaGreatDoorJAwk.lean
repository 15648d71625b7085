import Derived.Test.YtdcopmkgmbiikaaGreatDoorJReg
set_option maxRecDepth 100000
namespace Go.Proofs.YtdcopmkgmbiikaaGreatDoor
open Go.RowKit
theorem uO (b:Nat) (F:Nat→Prop) (s:dy) (w:World) (h:R w b F s) (hn:s.f=none) (hp:s.place=s.all.length) :
  Calls Tryz.prog 86 #[.pointer (some ⟨b,0,none⟩)] w fun e w'=>e = .returned .nilIface∧Fr (fun _=>False) w w':=by
 obtain⟨sv,hr,_⟩:=h.rc hn
 have c1:=hr.c1
 have c2:=hr.c2
 have c3:=hr.c3
 obtain⟨ao,cap,rfl,_,_⟩:=hr.form
 have hlt:=h.lt b h.fb
 have hd:decide (s.place<s.all.length)=false:=by simp;omega
 clear h hn hr hp
 go_enter Tryz.func86,Tryz.ntmps86
 go_wp2_with fail
 go_quiet (fail)
 go_wp2_with (go_at_call 115;refine(told_none b _ (by simpa using c1)).mono ?_;rintro e w' ⟨rfl,rfl⟩)
 go_ret
 exact⟨rfl,(Fr.refl _ _).drewN _⟩
theorem qM (b:Nat) (F:Nat→Prop) (s:dy) (E:Nat→Addr) (w:World) (hg:Gl w E) (h:R w b F s) (hn:s.f=none) (hp:s.place<s.all.length) :
  Calls Tryz.prog 86 #[.pointer (some ⟨b,0,none⟩)] w fun e w'=>∃ fb,e = .returned (.iface 78 (.pointer (some ⟨fb,0,none⟩)))∧w'.heap[fb]?=some (aJ s.nm s.place (E 3))∧Fr (fun _=>False) w w'∧w.heap.size≤fb:=by
 obtain⟨sv,hr,_⟩:=h.rc hn
 have c0:=hr.c0
 have c1:=hr.c1
 have c2:=hr.c2
 have c3:=hr.c3
 have e3:=hg.e3
 obtain⟨ao,cap,rfl,_,_⟩:=hr.form
 have hlt:=h.lt b h.fb
 have hd:decide (s.place<s.all.length)=true:=by simp;omega
 clear h hn hr hp hg
 go_enter Tryz.func86,Tryz.ntmps86
 go_wp2_with fail
 go_quiet (fail)
 go_wp2_with fail
 go_region_with (go_at_call 120;refine(kq b s.place s.nm (E 3) _ (by simpa using c0)).mono ?_;rintro e w' ⟨rfl,rfl⟩)
 all_goals
  go_wp2
  go_ret
  exact⟨_,rfl,heap_alloc_new w _,((Fr.refl _ _).drewN _).alloc _,Nat.le_refl _⟩
def norm (a:List Nat):List Nat:=a.map (· % 256)
def eE (a b:List Nat):Bool:=decide (norm a=norm b)
theorem ld {a b:List Nat} {k:Nat} (ha:k<a.length) (hb:k<b.length) (h:norm (a.take k)=norm (b.take k)) (e:a[k] % 256=b[k] % 256):norm (a.take (k+1))=norm (b.take (k+1)):=by
 simp only[norm,List.take_add_one,List.getElem?_eq_getElem ha,List.getElem?_eq_getElem hb,Option.toList_some,List.map_append,List.map_cons,List.map_nil] at *
 rw[h,e]
theorem dd (w:World) (a b:Nat):∃ n,(w.drewN a).drewN b=w.drewN n:=⟨a+b,by simp[World.drewN,Nat.add_assoc]⟩
theorem zY {a b:List Nat} {k:Nat} (ha:k<a.length) (hb:k<b.length) (e:¬ a[k] % 256=b[k] % 256):eE a b=false:=by
 simp only[eE,decide_eq_false_iff_not]
 intro h
 have:=congrArg (fun l=>l[k]?) h
 simp[norm,ha,hb] at this
 exact e this
theorem wN {a b:List Nat} {k:Nat} (hl:a.length=b.length) (hk:a.length≤k) (h:norm (a.take k)=norm (b.take k)):eE a b=true:=by
 rw[List.take_of_length_le hk,List.take_of_length_le (by omega)] at h
 simp[eE,h]
theorem eM (x y:Value) (a b:List Nat) (w:World) (hx:Src w x a) (hy:Src w y b) (ha:a.length≤140737488355328) :
  Calls Tryz.prog 11 #[x,y] w fun e w'=>e = .returned (.bool (eE a b))∧∃ n,w'=w.drewN n:=by
 have HX:=ae hx
 have HY:=ae hy
 obtain⟨xo,xc,rfl⟩:=hx.form
 obtain⟨yo,yc,rfl⟩:=hy.form
 clear hx hy
 by_cases hl:a.length=b.length
 ·have hne:((a.length:Int) != (b.length:Int))=false:=by simp[hl]
  have HL:=ae hl
  clear hl
  go_enter Tryz.func11,Tryz.ntmps11
  go_wp2_with fail
  go_loopw [5] (fun i wr=>∃ k q:Nat,k≤a.length∧i = .int .i64 k∧norm (a.take k)=norm (b.take k)∧wr=w.drewN q) (fun i _=>a.length - (intOf i).toNat)
  case atStart=>exact⟨0,0,Nat.zero_le _,rfl,rfl,rfl⟩
  case round =>
   obtain⟨k,q,hk,rfl,hnm,rfl⟩:=hrel
   have HN:=ae hnm
   clear hnm
   by_cases hlt:k<a.length
   ·have hltb:k<b.length:=by have:=aa HL;omega
    obtain⟨g,o,rfl,hcx⟩:=pB (aa HX) k hlt
    obtain⟨g',o',rfl,hcy⟩:=pB (aa HY) k hltb
    by_cases he:a[k] % 256=b[k] % 256
    ·have hq:((((a[k] % 256:Nat):Int)) != ((b[k] % 256:Nat):Int))=false:=by simp only[bne_eq_false_iff_eq];omega
     have HE:=ae he
     clear he
     generalize hA:((a[k] % 256:Nat):Int)=A at hcx hq
     generalize hB:((b[k] % 256:Nat):Int)=Bv at hcy hq
     clear hA hB
     go_wp2_with fail
     go_quiet (fail)
     go_wp2_with fail
     go_roundw
     case rel=>exact⟨k+1,q+_,by omega,by go_num,ld hlt hltb (aa HN) (aa HE),rfl⟩
     case measure=>simp[intOf];omega
    ·have hq:((((a[k] % 256:Nat):Int)) != ((b[k] % 256:Nat):Int))=true:=by simp only[bne_iff_ne];omega
     have HE:=ae he
     clear he
     generalize hA:((a[k] % 256:Nat):Int)=A at hcx hq
     generalize hB:((b[k] % 256:Nat):Int)=Bv at hcy hq
     clear hA hB
     go_wp2_with fail
     go_quiet (fail)
     go_wp2_with fail
     go_ret
     exact⟨by rw[zY hlt hltb (aa HE)];rfl,dd w q _⟩
   ·go_wp2_with fail
    go_ret
    exact⟨by rw[wN (aa HL) (by omega) (aa HN)];rfl,q,rfl⟩
 ·have hne:((a.length:Int) != (b.length:Int))=true:=by simp;omega
  have hs:eE a b=false:=by
   simp only[eE,decide_eq_false_iff_not]
   intro h
   have:=congrArg List.length h
   simp[norm] at this
   exact hl this
  rw[hs]
  clear hl hs
  go_enter Tryz.func11,Tryz.ntmps11
  go_wp2
  go_ret
  exact⟨rfl,0,rfl⟩
theorem Fr.gK {S:Nat→Prop} {w w':World} (h:∃ n,w'=w.drewN n):Fr S w w':=by
 obtain⟨n,rfl⟩:=h
 exact(Fr.refl _ _).drewN n
end Go.Proofs.YtdcopmkgmbiikaaGreatDoor
