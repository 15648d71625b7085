import Derived.Test.YtdcopmkgmbiikaaGreatDoorJBase
set_option maxRecDepth 1000000
set_option maxHeartbeats 800000
namespace Go.Proofs.YtdcopmkgmbiikaaGreatDoor
open Go.RowKit
theorem Tryz.yy:(Tryz.prog.info? 5).map (fun i=>(i.zero,i.size,i.bytes))=some (some (.int .u8 0),1,1):=by kernel_rfl
theorem aS (size v:Nat):(be size v).length=size:=by simp[be]
theorem vM (x:Nat):IntKind.u8.wrap (x:Int)=((x % 256:Nat):Int):=by rw[IntKind.wrap_u8];omega
theorem iL {w:World} {base:Nat} {v:Value} {n:Nat} {xs:List Value} (h:w.ownsRow base 5 1 v n xs) (o:Obj):((w.alloc o).drew).ownsRow base 5 1 v n xs:=by
 refine⟨h.1,?_⟩
 rcases h.2 with h0|⟨g,cap,cur,e1,e2,e3,e4⟩
 ·exact .inl h0
 ·refine .inr ⟨g,cap,cur,e1,e2,?_,e4⟩
  have hg:g<w.heap.size:=by
   rcases Nat.lt_or_ge g w.heap.size with hlt|hge
   ·exact hlt
   ·rw[Array.getElem?_eq_none hge] at e3;cases e3
  exact(Below.heap_alloc w o g hg).trans e3
theorem Ay (l:List Nat) (size k v:Nat) (hlt:k<size):cellsOf (l++(be size v).take k)++[.int .u8 (IntKind.u8.wrap ((v:Int) / 2 ^ (8 * ((size:Int) - 1 - k)).toNat))]=cellsOf (l++(be size v).take (k+1)):=by
 have hb:(be size v)[k]?=some (v / 256 ^ (size - 1 - k)):=by simp[be,hlt]
 rw[List.take_add_one,hb]
 have e:(8 * ((size:Int) - 1 - k)).toNat=8 * (size - 1 - k):=by omega
 have hp:(2:Int) ^ (8 * (size - 1 - k))=((256 ^ (size - 1 - k):Nat):Int):=by rw[Int.pow_mul];simp
 rw[e,hp,← Int.natCast_ediv,vM]
 simp[cellsOf,B]
theorem fX (b size v:Nat) (sv:Value) (l:List Nat) (w:World) (hsize:size≤8)
  (h2:w.cell? ⟨b,2,none⟩=some sv) (f2:w.frozen? ⟨b,2,none⟩=false) (ho:w.ownsRow (b+1) 5 1 sv l.length (cellsOf l)) (hl:l.length+size≤140737488355328) :
  Calls Tryz.prog 203 #[.pointer (some ⟨b,0,none⟩),.int .i64 size,.int .u64 v] w fun e w'=>e = .returned (.tuple #[])∧∃ sv',ik w w' b 2 sv sv' (l++be size v):=by
 obtain⟨i0,hi,hz0,hz1,hz2⟩:=info_parts Tryz.yy
 go_enter Tryz.func203,Tryz.ntmps203
 go_wp2
 go_loopw [8] (fun i wr=>∃ k:Nat,k≤size∧i = .int .i64 k∧∃ sv',ik w wr b 2 sv sv' (l++(be size v).take k)) (fun i _=>size - (intOf i).toNat)
 case atStart=>exact⟨0,Nat.zero_le _,rfl,sv,by simpa using ik.refl h2 ho⟩
 case round =>
  obtain⟨k,hk,rfl,sv1,had⟩:=hrel
  by_cases hlt:k<size
  ·have c2:=had.c2
   have z2:=(had.fz 2).trans f2
   have hw1:IntKind.i64.wrap ((size:Int) - 1)=(size:Int) - 1:=by rw[IntKind.wrap_i64];omega
   have hw2:IntKind.i64.wrap ((size:Int) - 1 - k)=(size:Int) - 1 - k:=by rw[IntKind.wrap_i64];omega
   have hw3:IntKind.i64.wrap (8 * ((size:Int) - 1 - k))=8 * ((size:Int) - 1 - k):=by rw[IntKind.wrap_i64];omega
   have HO:Hid (wr.ownsRow (b+1) 5 1 sv1 (l.length+k) (cellsOf (l++(be size v).take k))):=by
    have:=had.own;rwa [List.length_append,List.length_take,aS,Nat.min_eq_left hk] at this
   have hb1:b<wr.heap.size:=ab c2
   have hne:some b≠sv1.ownBlock:=fun e=>by have:=(aa HO).lt b e.symm;omega
   go_wp2
   go_region_law (refine step_append_lies _ rfl (.tmp 15) (.tmp 24) 23 rfl (b+1) 5 i0 (.int .u8 0) 1 1 Tryz.underlying23 hi hz0 hz1 hz2 rfl (by decide) sv1 _ _ (by simp[Act.eval]) (iL (aa HO) _) ⟨wr.heap.size,0,none⟩ 1 1 [.int .u8 (IntKind.u8.wrap ((v:Int) / 2 ^ (8 * ((size:Int) - 1 - k)).toNat))] (by simp[Act.eval]) rfl (by intro j u hj;match j,hj with|0,hj=>simp at hj;subst hj;simp[Addr.add]) (by intro u hu;simp at hu;subst hu;rfl) (by decide) (by simp only[maxLen];omega) (by omega) (by simp;omega) _ rfl ?_;intro g cap w1 hown hgrow hat hlt2;have k0:w1.cell? ⟨b,2,none⟩=some sv1:=(hgrow.cell_far ⟨b,2,none⟩ (by simp;omega) hne).trans (by simpa using (World.cell?_alloc_past _ _ _ hb1).trans c2);have e0:w1.frozen? ⟨b,2,none⟩=false:=(hgrow.frozen_far ⟨b,2,none⟩ (by simp;omega) hne).trans (by simpa using (World.frozen?_alloc_past _ _ _ hb1).trans z2))
   all_goals
    go_wp2
    go_roundw
    case rel=>exact⟨k+1,by omega,by go_num,_,had.step (((Fr.refl _ _).alloc _).drew) hgrow hown (Ay l size k v hlt) (by rcases hat with h|h;exact .inl h;exact .inr (by rw[h];simp))⟩
    case measure=>simp[intOf];omega
  ·go_wp2
   go_end0
   have e:(be size v).take k=be size v:=List.take_of_length_le (by rw[aS];omega)
   rw[e] at had
   exact⟨rfl,sv1,had⟩
end Go.Proofs.YtdcopmkgmbiikaaGreatDoor
