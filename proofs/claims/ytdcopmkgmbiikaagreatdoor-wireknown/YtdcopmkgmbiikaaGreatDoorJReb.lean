import Derived.Test.YtdcopmkgmbiikaaGreatDoorJRea
set_option maxRecDepth 100000
namespace Go.Proofs.YtdcopmkgmbiikaaGreatDoor
open Go.RowKit
def val (l:List Nat):Nat:=l.foldl (fun v c=>v * 256+c % 256) 0
theorem rj (l:List Nat) (c:Nat):val (l++[c])=val l * 256+c % 256:=by simp[val]
theorem Ao (l:List Nat):∀ v,l.foldl (fun v c=>v * 256+c % 256) v<(v+1) * 256 ^ l.length:=by
 induction l with
 | nil=>intro v;simp
 | cons c l ih =>
  intro v
  refine Nat.lt_of_lt_of_le (ih (v * 256+c % 256)) ?_
  have h:c % 256<256:=Nat.mod_lt _ (by decide)
  rw[List.length_cons,Nat.pow_succ,Nat.mul_comm (256 ^ l.length) 256,← Nat.mul_assoc]
  exact Nat.mul_le_mul_right _ (by omega)
theorem gD (l:List Nat):val l<256 ^ l.length:=by have:=Ao l 0;simpa[val] using this
theorem yW (x c:Nat) (hx:x<72057594037927936):bits .or .u64 (IntKind.u64.wrap ((x:Int) * 256)) ((c:Int) % 256)=((x * 256+c % 256:Nat):Int):=by
 have e1:IntKind.u64.wrap ((x:Int) * 256)=((x * 256:Nat):Int):=by rw[IntKind.wrap_u64];omega
 have e2:(c:Int) % 256=((c % 256:Nat):Int):=by omega
 have hc:c % 256<2 ^ 8:=Nat.mod_lt _ (by decide)
 rw[e1,e2,u64_or_nat _ _ (by omega) (by omega)]
 have:=Nat.two_pow_add_eq_or_of_lt hc x
 rw[Nat.mul_comm x 256,← this]
theorem dw (b size place part:Nat) (nm:ByteArray) (sv:Value) (all:List Nat) (E:Nat→Addr) (w:World) (hs:size≤8) (hg:Gl w E) (h:Rc w b nm sv all place part) (hn:size+place≤all.length) :
  Calls Tryz.prog 213 #[.pointer (some ⟨b,0,none⟩),.int .i64 size] w fun e w'=>e = .returned (.int .u64 (val ((all.drop place).take size)))∧Rc w' b nm sv all (place+size) part∧Fr (fun k=>k=b) w w':=by
 have HT:=ae (oA b size place part nm sv all E w hg h hn)
 clear hg h
 go_enter Tryz.func213,Tryz.ntmps213
 go_wp2_with fail
 refine(aa HT).mono ?_
 rintro e w1 ⟨v,rfl,hsrc,hr,hf⟩
 have hlen:((all.drop place).take size).length=size:=by simp;omega
 generalize hll:(all.drop place).take size=l at hsrc hlen
 have HLL:=ae hll
 clear hll
 obtain⟨xo,xc,rfl⟩:=hsrc.form
 have HS:=ae hsrc
 have HRF:=ae (And.intro hr hf)
 clear hsrc hr hf HT
 have hl8:l.length≤8:=by omega
 have hL:=ae hlen
 clear hlen
 go_wp2_with fail
 go_loop [4,11] (fun x i=>∃ k:Nat,k≤l.length∧i = .int .i64 k∧x = .int .u64 (val (l.take k))) (fun _ i=>l.length - (intOf i).toNat)
 case atStart=>exact⟨0,Nat.zero_le _,rfl,rfl⟩
 case round =>
  obtain⟨k,hk,rfl,rfl⟩:=hrel
  by_cases hlt:k<l.length
  ·obtain⟨g,o,rfl,hcell⟩:=pB (aa HS) k hlt
   have hv:=gD (l.take k)
   go_wp2
   have hv2:val (l.take k)<72057594037927936:=by
    refine Nat.lt_of_lt_of_le hv (Nat.le_trans (Nat.pow_le_pow_right (by decide) (show(l.take k).length≤7 by simp;omega)) (by decide))
   refine⟨⟨k+1,by omega,by go_num,?_⟩,by simp[intOf];omega⟩
   rw[yW _ _ hv2,List.take_add_one,List.getElem?_eq_getElem hlt,Option.toList_some,rj]
  ·go_wp2
   go_ret
   rw[List.take_of_length_le (by omega),aa HLL]
   exact⟨rfl,aa HRF⟩
end Go.Proofs.YtdcopmkgmbiikaaGreatDoor
