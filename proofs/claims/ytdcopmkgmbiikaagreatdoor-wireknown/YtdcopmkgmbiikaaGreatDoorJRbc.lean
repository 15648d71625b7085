import Derived.Test.YtdcopmkgmbiikaaGreatDoorJRbb
set_option maxRecDepth 100000
set_option maxHeartbeats 2000000
namespace Go.Proofs.YtdcopmkgmbiikaaGreatDoor
open Go.RowKit
theorem uK (b place part:Nat) (p0:Addr) (nm:ByteArray) (sv:Value) (all:List Nat) (E:Nat→Addr) (w:World) (hg:Gl w E) (h:Rc w b nm sv all place part)
  (hp0:w.cell? p0=some (.pointer (some ⟨b,0,none⟩))) (hn:all.length<4+place) :
  Calls Tryz.prog 217 #[.pointer (some p0)] w fun e w'=>∃ fa,e = .panicked [aG fa]∧aQ w w' b fa nm part (E 1):=by
 have HT:=ae (fm b 4 place part nm sv all E w (by decide) hg h hn)
 have H:=ae h
 clear hg h
 go_enter Tryz.func217,Tryz.ntmps217
 go_wp2_with fail
 refine(aa HT).mono ?_
 rintro e w1 ⟨fa,rfl,hB⟩
 exact⟨rfl,fa,rfl,aQ.of (aa H) (Fr.refl _ _) hB⟩
theorem uI (b place part:Nat) (p0 er:Addr) (nm:ByteArray) (sv:Value) (all:List Nat) (E:Nat→Addr) (w:World) (hb:9≤b) (hg:Gl w E) (hr:Rg w er) (h:Rc w b nm sv all place part) (n0:p0.block≠b)
  (hp0:w.cell? p0=some (.pointer (some ⟨b,0,none⟩))) (hn:4+place≤all.length) (hq:bM (val ((all.drop place).take 4))=false) :
  Calls Tryz.prog 217 #[.pointer (some p0)] w fun e w'=>∃ fa,e = .panicked [aG fa]∧aQ w w' b fa nm part er:=by
 have HT:=ae (dw b 4 place part nm sv all E w (by decide) hg h hn)
 have hlt:val ((all.drop place).take 4)<4294967296:=by
  have h1:=gD ((all.drop place).take 4)
  have h2:((all.drop place).take 4).length=4:=by simp;omega
  rw[h2] at h1;exact h1
 have hp0lt:=ab hp0
 have HG:=ae hr
 clear hg h hr
 generalize val ((all.drop place).take 4)=x at *
 have hw:IntKind.u32.wrap (x:Int)=(x:Int):=by rw[IntKind.wrap_u32];omega
 have hnot:∀ (x:Bool) (w:World),(Op.unary .not (.bool x)).run Tryz.prog w = .ok (.bool (!x)) w:=fun _ _=>rfl
 go_enter Tryz.func217,Tryz.ntmps217
 go_wp2_with fail
 refine(aa HT).mono ?_
 rintro e w1 ⟨rfl,hr,hf⟩
 have q0:=(hf.cell hp0lt n0).trans hp0
 have hrg:=(aa HG).fr hf (fun k e=>by have h':k=b:=e;omega)
 unfold Rg at hrg
 have c0:=hr.c0
 have c4:=hr.c4
 have HR:=ae (And.intro hr hf)
 clear hr hf HT HG hp0
 go_wp2_with fail
 go_region_dies
 all_goals
  go_wp2_with fail
  refine(kL x hlt _).mono ?_
  rintro e w2 ⟨rfl,rfl⟩
  rw[hq]
 all_goals
  rename_i hK
  refine hK _ _ ?_
  clear hK
  refine wpAny_take (i:=3) (v:=?_) rfl (by kernel_rfl) (by kernel_rfl) (by kernel_rfl) (fun _ _ _ h=>h) (Or.inl ⟨by rfl,?_⟩) ?_
  rotate_left
  ·intro w
   go_simp
   try with_reducible rfl
 ·refine wpAny_ready (rs:=[4]) (by kernel_rfl) (by simp) ?_
  refine AllReady.cons rfl (fun K hK=>?_) AllReady.nil
  go_simp
  refine hK _ _ ?_
  clear hK K
  refine wpAny_ready (rs:=[5]) (by kernel_rfl) (by simp) ?_
  refine AllReady.cons rfl (fun K hK=>?_) AllReady.nil
  go_simp
  go_wp2_with fail
  refine(bN b part nm er w1.drew (by simpa using c0) (by simpa using c4)).mono ?_
  rintro e w2 ⟨rfl,rfl⟩
  exact⟨rfl,_,rfl,aQ.of (aa HR).1 (aa HR).2 (bl w1 nm part er)⟩
 ·refine wpAny_ready (rs:=[5]) (by kernel_rfl) (by simp) ?_
  refine AllReady.cons rfl (fun K hK=>?_) AllReady.nil
  go_simp
  go_wp2_with fail
  refine(bN b part nm er w1.drew (by simpa using c0) (by simpa using c4)).mono ?_
  rintro e w2 ⟨rfl,rfl⟩
  exact⟨rfl,_,rfl,aQ.of (aa HR).1 (aa HR).2 (bl w1 nm part er)⟩
 ·refine wpAny_ready (rs:=[0,4]) (by kernel_rfl) (by simp) ?_
  refine AllReady.cons rfl (fun K hK=>?_) (AllReady.cons rfl (fun K hK=>?_) AllReady.nil)
  ·go_simp
   refine hK _ _ ?_
   clear hK K
   refine wpAny_ready (rs:=[4]) (by kernel_rfl) (by simp) ?_
   refine AllReady.cons rfl (fun K hK=>?_) AllReady.nil
   go_simp
   refine hK _ _ ?_
   clear hK K
   refine wpAny_ready (rs:=[5]) (by kernel_rfl) (by simp) ?_
   refine AllReady.cons rfl (fun K hK=>?_) AllReady.nil
   go_simp
   go_wp2_with fail
   refine(bN b part nm er w1.drew (by simpa using c0) (by simpa using c4)).mono ?_
   rintro e w2 ⟨rfl,rfl⟩
   exact⟨rfl,_,rfl,aQ.of (aa HR).1 (aa HR).2 (bl w1 nm part er)⟩
  ·go_simp
   refine hK _ _ ?_
   clear hK K
   refine wpAny_ready (rs:=[0]) (by kernel_rfl) (by simp) ?_
   refine AllReady.cons rfl (fun K hK=>?_) AllReady.nil
   go_simp
   refine hK _ _ ?_
   clear hK K
   refine wpAny_ready (rs:=[5]) (by kernel_rfl) (by simp) ?_
   refine AllReady.cons rfl (fun K hK=>?_) AllReady.nil
   go_simp
   go_wp2_with fail
   refine(bN b part nm er w1.drew (by simpa using c0) (by simpa using c4)).mono ?_
   rintro e w2 ⟨rfl,rfl⟩
   exact⟨rfl,_,rfl,aQ.of (aa HR).1 (aa HR).2 (bl w1 nm part er)⟩
 ·refine wpAny_ready (rs:=[5]) (by kernel_rfl) (by simp) ?_
  refine AllReady.cons rfl (fun K hK=>?_) AllReady.nil
  go_simp
  go_wp2_with fail
  refine(bN b part nm er w1.drew (by simpa using c0) (by simpa using c4)).mono ?_
  rintro e w2 ⟨rfl,rfl⟩
  exact⟨rfl,_,rfl,aQ.of (aa HR).1 (aa HR).2 (bl w1 nm part er)⟩
 ·refine wpAny_ready (rs:=[0]) (by kernel_rfl) (by simp) ?_
  refine AllReady.cons rfl (fun K hK=>?_) AllReady.nil
  go_simp
  refine hK _ _ ?_
  clear hK K
  refine wpAny_ready (rs:=[5]) (by kernel_rfl) (by simp) ?_
  refine AllReady.cons rfl (fun K hK=>?_) AllReady.nil
  go_simp
  go_wp2_with fail
  refine(bN b part nm er w1.drew (by simpa using c0) (by simpa using c4)).mono ?_
  rintro e w2 ⟨rfl,rfl⟩
  exact⟨rfl,_,rfl,aQ.of (aa HR).1 (aa HR).2 (bl w1 nm part er)⟩
end Go.Proofs.YtdcopmkgmbiikaaGreatDoor
