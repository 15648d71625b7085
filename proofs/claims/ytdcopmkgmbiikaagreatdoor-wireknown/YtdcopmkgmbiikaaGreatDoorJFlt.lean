import Derived.Test.YtdcopmkgmbiikaaGreatDoorJLay
set_option maxRecDepth 100000
set_option maxHeartbeats 2000000
namespace Go.Proofs.YtdcopmkgmbiikaaGreatDoor
open Go.RowKit
def bM (x:Nat):Bool:=(x != 2147483648) && ((x &&& 2139095040) != 2139095040)
theorem kL (x:Nat) (hx:x<4294967296) (w:World):Calls Tryz.prog 206 #[.int .u32 x] w fun e w'=>e = .returned (.bool (bM x))∧w'=w:=by
 have ha:bits .and .u32 (x:Int) 2139095040=((x &&& 2139095040:Nat):Int):=u32_and_nat x 2139095040 hx (by decide)
 have e1:((x:Int) != 2147483648)=(x != 2147483648):=by rw[Bool.eq_iff_iff];simp;omega
 have e2:((((x &&& 2139095040:Nat):Int)) != 2139095040)=((x &&& 2139095040) != 2139095040):=by rw[Bool.eq_iff_iff];simp;omega
 by_cases h1:x=2147483648
 ·subst h1
  clear ha e1 e2
  go_enter Tryz.func206,Tryz.ntmps206
  go_wp2
  go_ret
  exact⟨rfl,rfl⟩
 ·have b1:((x:Int) != 2147483648)=true:=by rw[e1];simp[h1]
  have hq:bM x=((x &&& 2139095040) != 2139095040):=by simp[bM,h1]
  rw[hq]
  clear e1 h1 hq
  go_enter Tryz.func206,Tryz.ntmps206
  go_wp2
  go_ret
  exact⟨rfl,rfl⟩
theorem Tryz.AV (x:Nat) (w:World):(callFunc 119 #[.float .f32 x]).run Tryz.prog w = .ok (.value (.int .u32 x)) w:=by
 have h:=@run_callFunc_extern Tryz.prog 119 _ Extern.MathFloatBits.float32bits Tryz.func119 (by kernel_rfl) (by kernel_rfl) (by kernel_rfl) (by kernel_rfl) #[.float .f32 x] w
 rw[h];rfl
theorem Tryz.Cx (x:Nat) (w:World):(callFunc 147 #[.int .u32 x]).run Tryz.prog w = .ok (.value (.float .f32 x)) w:=by
 have h:=@run_callFunc_extern Tryz.prog 147 _ Extern.MathFloatBits.float32frombits Tryz.func147 (by kernel_rfl) (by kernel_rfl) (by kernel_rfl) (by kernel_rfl) #[.int .u32 x] w
 rw[h];rfl
theorem ik.gK {w w':World} {b o n:Nat} {sv sv':Value} {l:List Nat} (h:ik (w.drewN n) w' b o sv sv' l):ik w w' b o sv sv' l:=
 ⟨⟨h.fr.os,h.fr.tape,h.fr.output,h.fr.size,h.fr.block⟩,h.c2,h.own,fun i hi=>(h.cs i hi).trans (World.cell?_drewN _ _ _),fun i=>(h.fz i).trans (World.frozen?_drewN _ _ _),h.at_⟩
theorem yt (b x:Nat) (p0 p1 er:Addr) (sv:Value) (l:List Nat) (w:World) (hx:x<4294967296) (hq:bM x=true) (hr:Rg w er)
  (hp0:w.cell? p0=some (.float .f32 x)) (hp1:w.cell? p1=some (.pointer (some ⟨b,0,none⟩)))
  (h2:w.cell? ⟨b,2,none⟩=some sv) (f2:w.frozen? ⟨b,2,none⟩=false) (ho:w.ownsRow (b+1) 5 1 sv l.length (cellsOf l)) (hl:l.length+4≤140737488355328) :
  Calls Tryz.prog 205 #[.pointer (some p0),.pointer (some p1)] w fun e w'=>e = .returned (.tuple #[])∧∃ sv',ik w w' b 2 sv sv' (l++be 4 x):=by
 have HO:=ae ho
 clear ho
 unfold Rg at hr
 have hfb:=Tryz.AV
 have hnot:∀ (x:Bool) (w:World),(Op.unary .not (.bool x)).run Tryz.prog w = .ok (.bool (!x)) w:=fun _ _=>rfl
 go_enter Tryz.func205,Tryz.ntmps205
 go_wp2_with fail
 go_quiet ((first|(go_at_call 206;exact Calls.quiet_of_same ((kL x hx _).mono (fun e w' h=>by rw[hq] at h;exact h)))|(go_at_call 184;exact Calls.quiet_of_same (eU _ _ _))))
 go_wp2_with fail
 refine(fX b 4 x sv l _ (by decide) (by simpa using h2) (by simpa using f2) (by exact aa HO) hl).mono ?_
 rintro e w' ⟨rfl,sv',hA⟩
 go_wp2_with fail
 go_end0
 exact⟨rfl,sv',hA.gK⟩
theorem oH (b x:Nat) (p0 p1 er:Addr) (nm:ByteArray) (ao:Option Addr) (ln cap:Nat) (w:World) (hx:x<4294967296) (hq:bM x=false) (hr:Rg w er)
  (hp0:w.cell? p0=some (.float .f32 x)) (hp1:w.cell? p1=some (.pointer (some ⟨b,0,none⟩))) (h0:w.cell? ⟨b,0,none⟩=some (.string nm)) (h2:w.cell? ⟨b,2,none⟩=some (.slice ao ln cap)) :
  Calls Tryz.prog 205 #[.pointer (some p0),.pointer (some p1)] w fun e w'=>∃ fa,e = .panicked [aG fa]∧sA w w' fa nm ln er:=by
 unfold Rg at hr
 have hfb:=Tryz.AV
 have hnot:∀ (x:Bool) (w:World),(Op.unary .not (.bool x)).run Tryz.prog w = .ok (.bool (!x)) w:=fun _ _=>rfl
 go_enter Tryz.func205,Tryz.ntmps205
 go_wp2_with fail
 go_region_dies
 all_goals
  go_wp2_with fail
  refine(kL x hx _).mono ?_
  rintro e w1 ⟨rfl,rfl⟩
  rw[hq]
 all_goals
  rename_i hK
  refine hK _ _ ?_
  clear hK
  refine wpAny_take (i:=3) (v:=?_) rfl (by kernel_rfl) (by kernel_rfl) (by kernel_rfl) (fun _ _ _ h=>h) (Or.inl ⟨by rfl,?_⟩) ?_
  rotate_left
  ·intro w
   go_simp
   try with_reducible rfl
 ·refine wpAny_ready (rs:=[4]) (by kernel_rfl) (by simp) ?_
  refine AllReady.cons rfl (fun K hK=>?_) AllReady.nil
  go_simp
  refine hK _ _ ?_
  clear hK K
  refine wpAny_ready (rs:=[5]) (by kernel_rfl) (by simp) ?_
  refine AllReady.cons rfl (fun K hK=>?_) AllReady.nil
  go_simp
  go_wp2_with fail
  refine(bT b ln cap ao nm er w.drew (by simpa using h0) (by simpa using h2)).mono ?_
  rintro e w1 ⟨rfl,rfl⟩
  exact⟨rfl,_,rfl,bl w nm ln er⟩
 ·refine wpAny_ready (rs:=[5]) (by kernel_rfl) (by simp) ?_
  refine AllReady.cons rfl (fun K hK=>?_) AllReady.nil
  go_simp
  go_wp2_with fail
  refine(bT b ln cap ao nm er w.drew (by simpa using h0) (by simpa using h2)).mono ?_
  rintro e w1 ⟨rfl,rfl⟩
  exact⟨rfl,_,rfl,bl w nm ln er⟩
 ·refine wpAny_ready (rs:=[0,4]) (by kernel_rfl) (by simp) ?_
  refine AllReady.cons rfl (fun K hK=>?_) (AllReady.cons rfl (fun K hK=>?_) AllReady.nil)
  ·go_simp
   refine hK _ _ ?_
   clear hK K
   refine wpAny_ready (rs:=[4]) (by kernel_rfl) (by simp) ?_
   refine AllReady.cons rfl (fun K hK=>?_) AllReady.nil
   go_simp
   refine hK _ _ ?_
   clear hK K
   refine wpAny_ready (rs:=[5]) (by kernel_rfl) (by simp) ?_
   refine AllReady.cons rfl (fun K hK=>?_) AllReady.nil
   go_simp
   go_wp2_with fail
   refine(bT b ln cap ao nm er w.drew (by simpa using h0) (by simpa using h2)).mono ?_
   rintro e w1 ⟨rfl,rfl⟩
   exact⟨rfl,_,rfl,bl w nm ln er⟩
  ·go_simp
   refine hK _ _ ?_
   clear hK K
   refine wpAny_ready (rs:=[0]) (by kernel_rfl) (by simp) ?_
   refine AllReady.cons rfl (fun K hK=>?_) AllReady.nil
   go_simp
   refine hK _ _ ?_
   clear hK K
   refine wpAny_ready (rs:=[5]) (by kernel_rfl) (by simp) ?_
   refine AllReady.cons rfl (fun K hK=>?_) AllReady.nil
   go_simp
   go_wp2_with fail
   refine(bT b ln cap ao nm er w.drew (by simpa using h0) (by simpa using h2)).mono ?_
   rintro e w1 ⟨rfl,rfl⟩
   exact⟨rfl,_,rfl,bl w nm ln er⟩
 ·refine wpAny_ready (rs:=[5]) (by kernel_rfl) (by simp) ?_
  refine AllReady.cons rfl (fun K hK=>?_) AllReady.nil
  go_simp
  go_wp2_with fail
  refine(bT b ln cap ao nm er w.drew (by simpa using h0) (by simpa using h2)).mono ?_
  rintro e w1 ⟨rfl,rfl⟩
  exact⟨rfl,_,rfl,bl w nm ln er⟩
 ·refine wpAny_ready (rs:=[0]) (by kernel_rfl) (by simp) ?_
  refine AllReady.cons rfl (fun K hK=>?_) AllReady.nil
  go_simp
  refine hK _ _ ?_
  clear hK K
  refine wpAny_ready (rs:=[5]) (by kernel_rfl) (by simp) ?_
  refine AllReady.cons rfl (fun K hK=>?_) AllReady.nil
  go_simp
  go_wp2_with fail
  refine(bT b ln cap ao nm er w.drew (by simpa using h0) (by simpa using h2)).mono ?_
  rintro e w1 ⟨rfl,rfl⟩
  exact⟨rfl,_,rfl,bl w nm ln er⟩
end Go.Proofs.YtdcopmkgmbiikaaGreatDoor
