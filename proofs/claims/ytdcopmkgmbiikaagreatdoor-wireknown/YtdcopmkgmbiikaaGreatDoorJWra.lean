import Derived.Test.YtdcopmkgmbiikaaGreatDoorJFai
set_option maxRecDepth 100000
namespace Go.Proofs.YtdcopmkgmbiikaaGreatDoor
open Go.RowKit
structure iR {α:Type} (en:World→Value→α→Prop) (w:World) (K:Nat→Prop) (fv:Value) (E:Nat→Addr) (r:α→Nat):Prop where
 lt:∀ k,K k→k<w.heap.size
 le:∀ v,r v≤7
 ex:∃ Fc caps,fv = .func (.func Fc) #[] caps∧(∀ (x:Value) (W:World),(callFunc Fc (#[x]++caps)).run Tryz.prog W = .ok (.enter Fc (#[x]++caps)) W) ∧
  ∀ w' x v,(∀ k,K k→w'.heap[k]?=w.heap[k]?)→en w' x v→Calls Tryz.prog Fc (#[x]++caps) w' fun e w''=>e = .returned (ba E (r v))∧Fr (fun _=>False) w' w''
theorem iR.mono {α:Type} {en:World→Value→α→Prop} {w w':World} {K K':Nat→Prop} {fv:Value} {E:Nat→Addr} {r:α→Nat} (h:iR en w K fv E r) (hb:∀ k,K k→w'.heap[k]?=w.heap[k]?) (hK:∀ k,K k→K' k) (hlt:∀ k,K' k→k<w'.heap.size):iR en w' K' fv E r:=by
 refine⟨hlt,h.le,?_⟩
 obtain⟨Fc,caps,e,hen,hc⟩:=h.ex
 exact⟨Fc,caps,e,hen,fun w2 x v hk hx=>hc w2 x v (fun k hk'=>(hk k (hK k hk')).trans (hb k hk')) hx⟩
structure dC {α:Type} (en:World→Value→α→Prop) (w:World) (K:Nat→Prop) (x:Value) (E:Nat→Addr) (rs:List (α→Nat)):Prop where
 lt:∀ k,K k→k<w.heap.size
 form:∃ xo c,x = .slice xo rs.length c
 nz:∀ xo n c,x = .slice xo n c→(xo=none∧n=0∧c=0)∨∃ g o,xo=some ⟨g,o,none⟩
 cell:∀ xo n c,x = .slice xo n c→∀ j r,rs[j]?=some r→∃ g o fv,xo=some ⟨g,o,none⟩∧K g∧w.cell? ⟨g,o+j,none⟩=some fv∧iR en w K fv E r
theorem dC.nil {α:Type} (en:World→Value→α→Prop) (w:World) (E:Nat→Addr):dC en w (fun _=>False) (.slice none 0 0) E ([]:List (α→Nat)):=
 ⟨fun _ h=>h.elim,⟨none,0,rfl⟩,fun _ _ _ e=>.inl (by cases e;exact⟨rfl,rfl,rfl⟩),fun _ _ _ _ j r h=>by simp at h⟩
theorem dC.mono {α:Type} {en:World→Value→α→Prop} {w w':World} {K:Nat→Prop} {x:Value} {E:Nat→Addr} {rs:List (α→Nat)} (h:dC en w K x E rs) (hs:w.heap.size≤w'.heap.size) (hb:∀ k,K k→w'.heap[k]?=w.heap[k]?):dC en w' K x E rs:=by
 have hlt:∀ k,K k→k<w'.heap.size:=fun k hk=>Nat.lt_of_lt_of_le (h.lt k hk) hs
 refine⟨hlt,h.form,h.nz,fun xo n c e j r hr=>?_⟩
 obtain⟨g,o,fv,h1,h2,h3,h4⟩:=h.cell xo n c e j r hr
 exact⟨g,o,fv,h1,h2,(World.cell?_of_block (w:=w) (hb g h2)).trans h3,h4.mono hb (fun _ h=>h) hlt⟩
theorem dC.fr {α:Type} {en:World→Value→α→Prop} {w w':World} {K S:Nat→Prop} {x:Value} {E:Nat→Addr} {rs:List (α→Nat)} (h:dC en w K x E rs) (hf:Fr S w w') (hS:∀ k,K k→¬ S k):dC en w' K x E rs:=
 h.mono hf.size (fun k hk=>hf.block k (h.lt k hk) (hS k hk))
def fb {α:Type} : List (α→Nat)→α→Nat
 | [],_=>0
 | r::rs,v=>if r v=0 then fb rs v else r v
theorem CP {α:Type} {rs:List (α→Nat)} (h:∀ r∈rs,∀ v,r v≤7) (v:α):fb rs v≤7:=by
 induction rs with
 | nil=>exact Nat.zero_le _
 | cons r rs ih =>
  unfold fb
  split
  ·exact ih (fun r' hr'=>h r' (List.mem_cons_of_mem _ hr'))
  ·exact h r (List.mem_cons_self ..) v
theorem gQ {α:Type} (rs:List (α→Nat)) (v:α) (k:Nat) (r:α→Nat) (h:rs[k]?=some r):fb (rs.drop k) v=if r v=0 then fb (rs.drop (k+1)) v else r v:=by
 obtain⟨hk,e⟩:=List.getElem?_eq_some_iff.1 h
 rw[List.drop_eq_getElem_cons hk,e]
 rfl
theorem dC.le {α:Type} {en:World→Value→α→Prop} {w:World} {K:Nat→Prop} {x:Value} {E:Nat→Addr} {rs:List (α→Nat)} (h:dC en w K x E rs) (v:α):fb rs v≤7:=by
 refine CP (fun r hr v'=>?_) v
 obtain⟨j,hj⟩:=List.mem_iff_getElem?.1 hr
 obtain⟨xo,c,rfl⟩:=h.form
 obtain⟨_,_,_,_,_,_,h4⟩:=h.cell _ _ _ rfl j r hj
 exact h4.le v'
def dP (_:World) (x:Value) (v:Nat):Prop:=x = .int .u8 (v:Nat)∧v<256
def dR (_:World) (x:Value) (v:Nat):Prop:=x = .int .u32 (v:Nat)∧v<4294967296
def im (_:World) (x:Value) (v:Nat):Prop:=x = .float .f32 v∧v<4294967296
def dm (_:World) (x:Value) (v:Int):Prop:=x = .int .i64 v
def dD (_:World) (x:Value) (v:ByteArray):Prop:=x = .string v
def eD (w:World) (x:Value) (v:List Nat):Prop:=Src w x v
theorem eI (E:Nat→Addr):ba E 0 = .nilIface:=rfl
theorem cT (E:Nat→Addr) {n:Nat} (h:n≠0):ba E n = .iface 339 (.pointer (some (E n))):=by simp[ba,h]
theorem gG (w0 w:World) (K:Nat→Prop) (x xv:Value) (E:Nat→Addr) (rs:List (Nat→Nat)) (v:Nat) (h:dC dP w0 K x E rs) (hb:∀ k,K k→w.heap[k]?=w0.heap[k]?) (hs:w0.heap.size≤w.heap.size) (hen:dP w xv v) (hn:rs.length<9223372036854775808) :
  Calls Tryz.prog 168 #[x,xv] w fun e w'=>e = .returned (ba E (fb rs v))∧Fr (fun _=>False) w w':=by
 obtain⟨xo,c,rfl⟩:=h.form
 have H:=ae (h.mono hs hb)
 have HE:=ae hen
 clear h hb hs hen
 go_enter Tryz.func168,Tryz.ntmps168
 go_wp2_with fail
 go_loopw [10] (fun iv wr=>∃ k:Nat,k≤rs.length∧iv = .int .i64 (k:Nat)∧fb (rs.drop k) v=fb rs v∧Fr (fun _=>False) w wr) (fun iv _=>rs.length - (intOf iv).toNat)
 case atStart=>exact⟨0,Nat.zero_le _,rfl,by rw[List.drop_zero],Fr.refl _ _⟩
 case round =>
  obtain⟨k,hk,rfl,hfb,hf⟩:=hrel
  by_cases hlt:k<rs.length
  ·have hlt':(k:Int)<(rs.length:Int):=by omega
   obtain⟨r,hr⟩:∃ r,rs[k]?=some r:=⟨rs[k],List.getElem?_eq_getElem hlt⟩
   have hR:=(aa H).fr hf (fun _ _ h=>h)
   obtain⟨g,o,fv,rfl,_,hc,hF⟩:=hR.cell _ _ _ rfl k r hr
   obtain⟨Fc,caps,rfl,he,hcall⟩:=hF.ex
   have hc2:=hcall wr xv v (fun _ _=>rfl) (aa HE)
   have e0:=gQ rs v k r hr
   have HC:=ae (And.intro hc2 (And.intro e0 (And.intro hfb hf)))
   clear hc2 e0 hfb hf hR hcall hF hr
   go_wp2_with fail
   refine(aa HC).1.mono ?_
   rintro e w1 ⟨rfl,hf1⟩
   have hf1':=(aa HC).2.2.2.trans hf1 (fun _ _ h=>h)
   by_cases h0:r v=0
   ·rw[h0,eI]
    have HX:=ae (And.intro hf1' h0)
    clear hf1 hf1' h0
    go_wp2_with fail
    refine⟨⟨k+1,by omega,by go_num,?_,(aa HX).1⟩,by simp[intOf];omega⟩
    have e0:=(aa HC).2.1
    rw[if_pos (aa HX).2] at e0
    exact e0.symm.trans (aa HC).2.2.1
   ·rw[cT E h0]
    have HX:=ae (And.intro hf1' h0)
    clear hf1 hf1' h0
    go_wp2_with fail
    go_ret
    have e0:=(aa HC).2.1
    rw[if_neg (aa HX).2] at e0
    refine⟨?_,(aa HX).1⟩
    rw[← (aa HC).2.2.1,e0,cT E (aa HX).2]
    rfl
  ·have hlt':¬ (k:Int)<(rs.length:Int):=by omega
   have hkE:k=rs.length:=by omega
   subst hkE
   have HX:=ae (And.intro hfb hf)
   clear hfb hf
   go_wp2_with fail
   go_ret
   refine⟨?_,(aa HX).2⟩
   rw[← (aa HX).1,List.drop_length]
   rfl
theorem gj (w0 w:World) (K:Nat→Prop) (x xv:Value) (E:Nat→Addr) (rs:List (Nat→Nat)) (v:Nat) (h:dC dR w0 K x E rs) (hb:∀ k,K k→w.heap[k]?=w0.heap[k]?) (hs:w0.heap.size≤w.heap.size) (hen:dR w xv v) (hn:rs.length<9223372036854775808) :
  Calls Tryz.prog 172 #[x,xv] w fun e w'=>e = .returned (ba E (fb rs v))∧Fr (fun _=>False) w w':=by
 obtain⟨xo,c,rfl⟩:=h.form
 have H:=ae (h.mono hs hb)
 have HE:=ae hen
 clear h hb hs hen
 go_enter Tryz.func172,Tryz.ntmps172
 go_wp2_with fail
 go_loopw [10] (fun iv wr=>∃ k:Nat,k≤rs.length∧iv = .int .i64 (k:Nat)∧fb (rs.drop k) v=fb rs v∧Fr (fun _=>False) w wr) (fun iv _=>rs.length - (intOf iv).toNat)
 case atStart=>exact⟨0,Nat.zero_le _,rfl,by rw[List.drop_zero],Fr.refl _ _⟩
 case round =>
  obtain⟨k,hk,rfl,hfb,hf⟩:=hrel
  by_cases hlt:k<rs.length
  ·have hlt':(k:Int)<(rs.length:Int):=by omega
   obtain⟨r,hr⟩:∃ r,rs[k]?=some r:=⟨rs[k],List.getElem?_eq_getElem hlt⟩
   have hR:=(aa H).fr hf (fun _ _ h=>h)
   obtain⟨g,o,fv,rfl,_,hc,hF⟩:=hR.cell _ _ _ rfl k r hr
   obtain⟨Fc,caps,rfl,he,hcall⟩:=hF.ex
   have hc2:=hcall wr xv v (fun _ _=>rfl) (aa HE)
   have e0:=gQ rs v k r hr
   have HC:=ae (And.intro hc2 (And.intro e0 (And.intro hfb hf)))
   clear hc2 e0 hfb hf hR hcall hF hr
   go_wp2_with fail
   refine(aa HC).1.mono ?_
   rintro e w1 ⟨rfl,hf1⟩
   have hf1':=(aa HC).2.2.2.trans hf1 (fun _ _ h=>h)
   by_cases h0:r v=0
   ·rw[h0,eI]
    have HX:=ae (And.intro hf1' h0)
    clear hf1 hf1' h0
    go_wp2_with fail
    refine⟨⟨k+1,by omega,by go_num,?_,(aa HX).1⟩,by simp[intOf];omega⟩
    have e0:=(aa HC).2.1
    rw[if_pos (aa HX).2] at e0
    exact e0.symm.trans (aa HC).2.2.1
   ·rw[cT E h0]
    have HX:=ae (And.intro hf1' h0)
    clear hf1 hf1' h0
    go_wp2_with fail
    go_ret
    have e0:=(aa HC).2.1
    rw[if_neg (aa HX).2] at e0
    refine⟨?_,(aa HX).1⟩
    rw[← (aa HC).2.2.1,e0,cT E (aa HX).2]
    rfl
  ·have hlt':¬ (k:Int)<(rs.length:Int):=by omega
   have hkE:k=rs.length:=by omega
   subst hkE
   have HX:=ae (And.intro hfb hf)
   clear hfb hf
   go_wp2_with fail
   go_ret
   refine⟨?_,(aa HX).2⟩
   rw[← (aa HX).1,List.drop_length]
   rfl
theorem gk (w0 w:World) (K:Nat→Prop) (x xv:Value) (E:Nat→Addr) (rs:List (Nat→Nat)) (v:Nat) (h:dC im w0 K x E rs) (hb:∀ k,K k→w.heap[k]?=w0.heap[k]?) (hs:w0.heap.size≤w.heap.size) (hen:im w xv v) (hn:rs.length<9223372036854775808) :
  Calls Tryz.prog 226 #[x,xv] w fun e w'=>e = .returned (ba E (fb rs v))∧Fr (fun _=>False) w w':=by
 obtain⟨xo,c,rfl⟩:=h.form
 have H:=ae (h.mono hs hb)
 have HE:=ae hen
 clear h hb hs hen
 go_enter Tryz.func226,Tryz.ntmps226
 go_wp2_with fail
 go_loopw [10] (fun iv wr=>∃ k:Nat,k≤rs.length∧iv = .int .i64 (k:Nat)∧fb (rs.drop k) v=fb rs v∧Fr (fun _=>False) w wr) (fun iv _=>rs.length - (intOf iv).toNat)
 case atStart=>exact⟨0,Nat.zero_le _,rfl,by rw[List.drop_zero],Fr.refl _ _⟩
 case round =>
  obtain⟨k,hk,rfl,hfb,hf⟩:=hrel
  by_cases hlt:k<rs.length
  ·have hlt':(k:Int)<(rs.length:Int):=by omega
   obtain⟨r,hr⟩:∃ r,rs[k]?=some r:=⟨rs[k],List.getElem?_eq_getElem hlt⟩
   have hR:=(aa H).fr hf (fun _ _ h=>h)
   obtain⟨g,o,fv,rfl,_,hc,hF⟩:=hR.cell _ _ _ rfl k r hr
   obtain⟨Fc,caps,rfl,he,hcall⟩:=hF.ex
   have hc2:=hcall wr xv v (fun _ _=>rfl) (aa HE)
   have e0:=gQ rs v k r hr
   have HC:=ae (And.intro hc2 (And.intro e0 (And.intro hfb hf)))
   clear hc2 e0 hfb hf hR hcall hF hr
   go_wp2_with fail
   refine(aa HC).1.mono ?_
   rintro e w1 ⟨rfl,hf1⟩
   have hf1':=(aa HC).2.2.2.trans hf1 (fun _ _ h=>h)
   by_cases h0:r v=0
   ·rw[h0,eI]
    have HX:=ae (And.intro hf1' h0)
    clear hf1 hf1' h0
    go_wp2_with fail
    refine⟨⟨k+1,by omega,by go_num,?_,(aa HX).1⟩,by simp[intOf];omega⟩
    have e0:=(aa HC).2.1
    rw[if_pos (aa HX).2] at e0
    exact e0.symm.trans (aa HC).2.2.1
   ·rw[cT E h0]
    have HX:=ae (And.intro hf1' h0)
    clear hf1 hf1' h0
    go_wp2_with fail
    go_ret
    have e0:=(aa HC).2.1
    rw[if_neg (aa HX).2] at e0
    refine⟨?_,(aa HX).1⟩
    rw[← (aa HC).2.2.1,e0,cT E (aa HX).2]
    rfl
  ·have hlt':¬ (k:Int)<(rs.length:Int):=by omega
   have hkE:k=rs.length:=by omega
   subst hkE
   have HX:=ae (And.intro hfb hf)
   clear hfb hf
   go_wp2_with fail
   go_ret
   refine⟨?_,(aa HX).2⟩
   rw[← (aa HX).1,List.drop_length]
   rfl
theorem gf (w0 w:World) (K:Nat→Prop) (x xv:Value) (E:Nat→Addr) (rs:List (Int→Nat)) (v:Int) (h:dC dm w0 K x E rs) (hb:∀ k,K k→w.heap[k]?=w0.heap[k]?) (hs:w0.heap.size≤w.heap.size) (hen:dm w xv v) (hn:rs.length<9223372036854775808) :
  Calls Tryz.prog 179 #[x,xv] w fun e w'=>e = .returned (ba E (fb rs v))∧Fr (fun _=>False) w w':=by
 obtain⟨xo,c,rfl⟩:=h.form
 have H:=ae (h.mono hs hb)
 have HE:=ae hen
 clear h hb hs hen
 go_enter Tryz.func179,Tryz.ntmps179
 go_wp2_with fail
 go_loopw [10] (fun iv wr=>∃ k:Nat,k≤rs.length∧iv = .int .i64 (k:Nat)∧fb (rs.drop k) v=fb rs v∧Fr (fun _=>False) w wr) (fun iv _=>rs.length - (intOf iv).toNat)
 case atStart=>exact⟨0,Nat.zero_le _,rfl,by rw[List.drop_zero],Fr.refl _ _⟩
 case round =>
  obtain⟨k,hk,rfl,hfb,hf⟩:=hrel
  by_cases hlt:k<rs.length
  ·have hlt':(k:Int)<(rs.length:Int):=by omega
   obtain⟨r,hr⟩:∃ r,rs[k]?=some r:=⟨rs[k],List.getElem?_eq_getElem hlt⟩
   have hR:=(aa H).fr hf (fun _ _ h=>h)
   obtain⟨g,o,fv,rfl,_,hc,hF⟩:=hR.cell _ _ _ rfl k r hr
   obtain⟨Fc,caps,rfl,he,hcall⟩:=hF.ex
   have hc2:=hcall wr xv v (fun _ _=>rfl) (aa HE)
   have e0:=gQ rs v k r hr
   have HC:=ae (And.intro hc2 (And.intro e0 (And.intro hfb hf)))
   clear hc2 e0 hfb hf hR hcall hF hr
   go_wp2_with fail
   refine(aa HC).1.mono ?_
   rintro e w1 ⟨rfl,hf1⟩
   have hf1':=(aa HC).2.2.2.trans hf1 (fun _ _ h=>h)
   by_cases h0:r v=0
   ·rw[h0,eI]
    have HX:=ae (And.intro hf1' h0)
    clear hf1 hf1' h0
    go_wp2_with fail
    refine⟨⟨k+1,by omega,by go_num,?_,(aa HX).1⟩,by simp[intOf];omega⟩
    have e0:=(aa HC).2.1
    rw[if_pos (aa HX).2] at e0
    exact e0.symm.trans (aa HC).2.2.1
   ·rw[cT E h0]
    have HX:=ae (And.intro hf1' h0)
    clear hf1 hf1' h0
    go_wp2_with fail
    go_ret
    have e0:=(aa HC).2.1
    rw[if_neg (aa HX).2] at e0
    refine⟨?_,(aa HX).1⟩
    rw[← (aa HC).2.2.1,e0,cT E (aa HX).2]
    rfl
  ·have hlt':¬ (k:Int)<(rs.length:Int):=by omega
   have hkE:k=rs.length:=by omega
   subst hkE
   have HX:=ae (And.intro hfb hf)
   clear hfb hf
   go_wp2_with fail
   go_ret
   refine⟨?_,(aa HX).2⟩
   rw[← (aa HX).1,List.drop_length]
   rfl
theorem gi (w0 w:World) (K:Nat→Prop) (x xv:Value) (E:Nat→Addr) (rs:List (ByteArray→Nat)) (v:ByteArray) (h:dC dD w0 K x E rs) (hb:∀ k,K k→w.heap[k]?=w0.heap[k]?) (hs:w0.heap.size≤w.heap.size) (hen:dD w xv v) (hn:rs.length<9223372036854775808) :
  Calls Tryz.prog 177 #[x,xv] w fun e w'=>e = .returned (ba E (fb rs v))∧Fr (fun _=>False) w w':=by
 obtain⟨xo,c,rfl⟩:=h.form
 have H:=ae (h.mono hs hb)
 have HE:=ae hen
 clear h hb hs hen
 go_enter Tryz.func177,Tryz.ntmps177
 go_wp2_with fail
 go_loopw [10] (fun iv wr=>∃ k:Nat,k≤rs.length∧iv = .int .i64 (k:Nat)∧fb (rs.drop k) v=fb rs v∧Fr (fun _=>False) w wr) (fun iv _=>rs.length - (intOf iv).toNat)
 case atStart=>exact⟨0,Nat.zero_le _,rfl,by rw[List.drop_zero],Fr.refl _ _⟩
 case round =>
  obtain⟨k,hk,rfl,hfb,hf⟩:=hrel
  by_cases hlt:k<rs.length
  ·have hlt':(k:Int)<(rs.length:Int):=by omega
   obtain⟨r,hr⟩:∃ r,rs[k]?=some r:=⟨rs[k],List.getElem?_eq_getElem hlt⟩
   have hR:=(aa H).fr hf (fun _ _ h=>h)
   obtain⟨g,o,fv,rfl,_,hc,hF⟩:=hR.cell _ _ _ rfl k r hr
   obtain⟨Fc,caps,rfl,he,hcall⟩:=hF.ex
   have hc2:=hcall wr xv v (fun _ _=>rfl) (aa HE)
   have e0:=gQ rs v k r hr
   have HC:=ae (And.intro hc2 (And.intro e0 (And.intro hfb hf)))
   clear hc2 e0 hfb hf hR hcall hF hr
   go_wp2_with fail
   refine(aa HC).1.mono ?_
   rintro e w1 ⟨rfl,hf1⟩
   have hf1':=(aa HC).2.2.2.trans hf1 (fun _ _ h=>h)
   by_cases h0:r v=0
   ·rw[h0,eI]
    have HX:=ae (And.intro hf1' h0)
    clear hf1 hf1' h0
    go_wp2_with fail
    refine⟨⟨k+1,by omega,by go_num,?_,(aa HX).1⟩,by simp[intOf];omega⟩
    have e0:=(aa HC).2.1
    rw[if_pos (aa HX).2] at e0
    exact e0.symm.trans (aa HC).2.2.1
   ·rw[cT E h0]
    have HX:=ae (And.intro hf1' h0)
    clear hf1 hf1' h0
    go_wp2_with fail
    go_ret
    have e0:=(aa HC).2.1
    rw[if_neg (aa HX).2] at e0
    refine⟨?_,(aa HX).1⟩
    rw[← (aa HC).2.2.1,e0,cT E (aa HX).2]
    rfl
  ·have hlt':¬ (k:Int)<(rs.length:Int):=by omega
   have hkE:k=rs.length:=by omega
   subst hkE
   have HX:=ae (And.intro hfb hf)
   clear hfb hf
   go_wp2_with fail
   go_ret
   refine⟨?_,(aa HX).2⟩
   rw[← (aa HX).1,List.drop_length]
   rfl
theorem gm (w0 w:World) (K:Nat→Prop) (x xv:Value) (E:Nat→Addr) (rs:List ((List Nat)→Nat)) (v:(List Nat)) (h:dC eD w0 K x E rs) (hb:∀ k,K k→w.heap[k]?=w0.heap[k]?) (hs:w0.heap.size≤w.heap.size) (hen:eD w xv v) (hn:rs.length<9223372036854775808) :
  Calls Tryz.prog 180 #[x,xv] w fun e w'=>e = .returned (ba E (fb rs v))∧Fr (fun _=>False) w w':=by
 obtain⟨xo,c,rfl⟩:=h.form
 have H:=ae (h.mono hs hb)
 have HE:=ae hen
 clear h hb hs hen
 go_enter Tryz.func180,Tryz.ntmps180
 go_wp2_with fail
 go_loopw [10] (fun iv wr=>∃ k:Nat,k≤rs.length∧iv = .int .i64 (k:Nat)∧fb (rs.drop k) v=fb rs v∧Fr (fun _=>False) w wr) (fun iv _=>rs.length - (intOf iv).toNat)
 case atStart=>exact⟨0,Nat.zero_le _,rfl,by rw[List.drop_zero],Fr.refl _ _⟩
 case round =>
  obtain⟨k,hk,rfl,hfb,hf⟩:=hrel
  by_cases hlt:k<rs.length
  ·have hlt':(k:Int)<(rs.length:Int):=by omega
   obtain⟨r,hr⟩:∃ r,rs[k]?=some r:=⟨rs[k],List.getElem?_eq_getElem hlt⟩
   have hR:=(aa H).fr hf (fun _ _ h=>h)
   obtain⟨g,o,fv,rfl,_,hc,hF⟩:=hR.cell _ _ _ rfl k r hr
   obtain⟨Fc,caps,rfl,he,hcall⟩:=hF.ex
   have hc2:=hcall wr xv v (fun _ _=>rfl) (Src.fr (aa HE) hf (fun _ _ _ _ _ h=>h))
   have e0:=gQ rs v k r hr
   have HC:=ae (And.intro hc2 (And.intro e0 (And.intro hfb hf)))
   clear hc2 e0 hfb hf hR hcall hF hr
   go_wp2_with fail
   refine(aa HC).1.mono ?_
   rintro e w1 ⟨rfl,hf1⟩
   have hf1':=(aa HC).2.2.2.trans hf1 (fun _ _ h=>h)
   by_cases h0:r v=0
   ·rw[h0,eI]
    have HX:=ae (And.intro hf1' h0)
    clear hf1 hf1' h0
    go_wp2_with fail
    refine⟨⟨k+1,by omega,by go_num,?_,(aa HX).1⟩,by simp[intOf];omega⟩
    have e0:=(aa HC).2.1
    rw[if_pos (aa HX).2] at e0
    exact e0.symm.trans (aa HC).2.2.1
   ·rw[cT E h0]
    have HX:=ae (And.intro hf1' h0)
    clear hf1 hf1' h0
    go_wp2_with fail
    go_ret
    have e0:=(aa HC).2.1
    rw[if_neg (aa HX).2] at e0
    refine⟨?_,(aa HX).1⟩
    rw[← (aa HC).2.2.1,e0,cT E (aa HX).2]
    rfl
  ·have hlt':¬ (k:Int)<(rs.length:Int):=by omega
   have hkE:k=rs.length:=by omega
   subst hkE
   have HX:=ae (And.intro hfb hf)
   clear hfb hf
   go_wp2_with fail
   go_ret
   refine⟨?_,(aa HX).2⟩
   rw[← (aa HX).1,List.drop_length]
   rfl
structure G6 (w:World) (E:Nat→Addr):Prop where
 gl:Gl w E
 e4:Rg w (E 4)
 e5:w.cell? ⟨5,0,none⟩=some (.iface 339 (.pointer (some (E 5))))
 e6:w.cell? ⟨6,0,none⟩=some (.iface 339 (.pointer (some (E 6))))
theorem G6.fr {w w':World} {E:Nat→Addr} {S:Nat→Prop} (h:G6 w E) (hf:Fr S w w') (hS:∀ k,S k→9≤k):G6 w' E:=by
 have key:∀ (n:Nat) (v:Value),n<9→w.cell? ⟨n,0,none⟩=some v→w'.cell? ⟨n,0,none⟩=some v:=fun n v hn hv =>
  (hf.cell (ab hv) (fun hs=>by have:=hS _ hs;simp only at this;omega)).trans hv
 exact⟨h.gl.fr hf hS,h.e4.fr hf hS,key _ _ (by decide) h.e5,key _ _ (by decide) h.e6⟩
theorem G7.g6 {w:World} {E:Nat→Addr} (h:G7 w E):G6 w E:=⟨h.gl,h.e4,h.e5,h.e6⟩
end Go.Proofs.YtdcopmkgmbiikaaGreatDoor
