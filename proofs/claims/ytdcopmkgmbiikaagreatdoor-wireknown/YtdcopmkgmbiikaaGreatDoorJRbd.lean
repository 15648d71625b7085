import Derived.Test.YtdcopmkgmbiikaaGreatDoorJRbb
set_option maxRecDepth 100000
set_option maxHeartbeats 1000000
namespace Go.Proofs.YtdcopmkgmbiikaaGreatDoor
open Go.RowKit
theorem qK (b place part x:Nat) (most:Int) (p0 p1:Addr) (nm:ByteArray) (sv:Value) (all:List Nat) (E:Nat→Addr) (w:World) (hb:9≤b) (hm:most<9223372036854775808) (hg:Gl w E) (h:Rc w b nm sv all place part)
  (hp0:w.cell? p0=some (.pointer (some ⟨b,0,none⟩))) (hp1:w.cell? p1=some (.int .i64 most)) (n0:p0.block≠b) (hx:val ((all.drop place).take 4)=x) (hn:4+place≤all.length) (hv:(x:Int)≤most) (hxl:all.length<x+(place+4)) :
  Calls Tryz.prog 223 #[.pointer (some p0),.pointer (some p1)] w fun e w'=>∃ fa,e = .panicked [aG fa]∧aQ w w' b fa nm part (E 1):=by
 have HC:=ae (fL b place part most nm sv all E w.drew hb hm hg.drew h.drew hn (by rw[hx];exact hv))
 rw[hx] at HC
 have hp0lt:=ab hp0
 have HG:=ae hg
 clear hg h hx
 go_enter Tryz.func223,Tryz.ntmps223
 go_wp2_with fail
 have hxb:x<9223372036854775808:=by omega
 go_region_dies
 all_goals
  go_wp2_with fail
  refine(aa HC).mono ?_
  rintro e w1 ⟨rfl,hr,hf⟩
  have q0:w1.cell? p0=some (.pointer (some ⟨b,0,none⟩)):=(hf.cell hp0lt n0).trans hp0
  have HR:=ae (And.intro hr hf)
  clear hr hf
 all_goals
  rename_i hK
  refine hK _ _ ?_
  clear hK
 ·refine wpAny_ready (rs:=[4]) (by kernel_rfl) (by simp) ?_
  refine AllReady.cons rfl (fun K hK=>?_) AllReady.nil
  go_simp
  go_wp2_with fail
  refine(bK b x (place+4) part nm sv all E w1 ((aa HG).drew.gn (aa HR).2 hb) (aa HR).1 hxl hxb).mono ?_
  rintro e w2 ⟨fa,rfl,hB⟩
  exact⟨rfl,fa,rfl,aQ.of (aa HR).1 ((pI b w).trans (aa HR).2 (fun _ _ h=>h)) hB⟩
 ·refine wpAny_ready (rs:=[4]) (by kernel_rfl) (by simp) ?_
  refine AllReady.cons rfl (fun K hK=>?_) AllReady.nil
  go_simp
  go_wp2_with fail
  refine(bK b x (place+4) part nm sv all E w1 ((aa HG).drew.gn (aa HR).2 hb) (aa HR).1 hxl hxb).mono ?_
  rintro e w2 ⟨fa,rfl,hB⟩
  exact⟨rfl,fa,rfl,aQ.of (aa HR).1 ((pI b w).trans (aa HR).2 (fun _ _ h=>h)) hB⟩
 ·refine wpAny_ready (rs:=[4]) (by kernel_rfl) (by simp) ?_
  refine AllReady.cons rfl (fun K hK=>?_) AllReady.nil
  go_simp
  go_wp2_with fail
  refine(bK b x (place+4) part nm sv all E w1 ((aa HG).drew.gn (aa HR).2 hb) (aa HR).1 hxl hxb).mono ?_
  rintro e w2 ⟨fa,rfl,hB⟩
  exact⟨rfl,fa,rfl,aQ.of (aa HR).1 ((pI b w).trans (aa HR).2 (fun _ _ h=>h)) hB⟩
 ·refine wpAny_ready (rs:=[4]) (by kernel_rfl) (by simp) ?_
  refine AllReady.cons rfl (fun K hK=>?_) AllReady.nil
  go_simp
  go_wp2_with fail
  refine(bK b x (place+4) part nm sv all E w1 ((aa HG).drew.gn (aa HR).2 hb) (aa HR).1 hxl hxb).mono ?_
  rintro e w2 ⟨fa,rfl,hB⟩
  exact⟨rfl,fa,rfl,aQ.of (aa HR).1 ((pI b w).trans (aa HR).2 (fun _ _ h=>h)) hB⟩
 ·refine wpAny_ready (rs:=[0]) (by kernel_rfl) (by simp) ?_
  refine AllReady.cons rfl (fun K hK=>?_) AllReady.nil
  go_simp
  refine hK _ _ ?_
  clear hK K
  refine wpAny_ready (rs:=[4]) (by kernel_rfl) (by simp) ?_
  refine AllReady.cons rfl (fun K hK=>?_) AllReady.nil
  go_simp
  go_wp2_with fail
  refine(bK b x (place+4) part nm sv all E w1 ((aa HG).drew.gn (aa HR).2 hb) (aa HR).1 hxl hxb).mono ?_
  rintro e w2 ⟨fa,rfl,hB⟩
  exact⟨rfl,fa,rfl,aQ.of (aa HR).1 ((pI b w).trans (aa HR).2 (fun _ _ h=>h)) hB⟩
 ·refine wpAny_ready (rs:=[4]) (by kernel_rfl) (by simp) ?_
  refine AllReady.cons rfl (fun K hK=>?_) AllReady.nil
  go_simp
  go_wp2_with fail
  refine(bK b x (place+4) part nm sv all E w1 ((aa HG).drew.gn (aa HR).2 hb) (aa HR).1 hxl hxb).mono ?_
  rintro e w2 ⟨fa,rfl,hB⟩
  exact⟨rfl,fa,rfl,aQ.of (aa HR).1 ((pI b w).trans (aa HR).2 (fun _ _ h=>h)) hB⟩
 ·refine wpAny_ready (rs:=[4]) (by kernel_rfl) (by simp) ?_
  refine AllReady.cons rfl (fun K hK=>?_) AllReady.nil
  go_simp
  go_wp2_with fail
  refine(bK b x (place+4) part nm sv all E w1 ((aa HG).drew.gn (aa HR).2 hb) (aa HR).1 hxl hxb).mono ?_
  rintro e w2 ⟨fa,rfl,hB⟩
  exact⟨rfl,fa,rfl,aQ.of (aa HR).1 ((pI b w).trans (aa HR).2 (fun _ _ h=>h)) hB⟩
 ·refine wpAny_ready (rs:=[0]) (by kernel_rfl) (by simp) ?_
  refine AllReady.cons rfl (fun K hK=>?_) AllReady.nil
  go_simp
  refine hK _ _ ?_
  clear hK K
  refine wpAny_ready (rs:=[4]) (by kernel_rfl) (by simp) ?_
  refine AllReady.cons rfl (fun K hK=>?_) AllReady.nil
  go_simp
  go_wp2_with fail
  refine(bK b x (place+4) part nm sv all E w1 ((aa HG).drew.gn (aa HR).2 hb) (aa HR).1 hxl hxb).mono ?_
  rintro e w2 ⟨fa,rfl,hB⟩
  exact⟨rfl,fa,rfl,aQ.of (aa HR).1 ((pI b w).trans (aa HR).2 (fun _ _ h=>h)) hB⟩
theorem tt (b place part x:Nat) (most:Int) (p0 p1:Addr) (nm:ByteArray) (sv:Value) (all:List Nat) (E:Nat→Addr) (w:World) (hb:9≤b) (hm:most<9223372036854775808) (hg:Gl w E) (h:Rc w b nm sv all place part)
  (hp0:w.cell? p0=some (.pointer (some ⟨b,0,none⟩))) (hp1:w.cell? p1=some (.int .i64 most)) (n0:p0.block≠b) (hx:val ((all.drop place).take 4)=x) (hn:4+place≤all.length) (hv:(x:Int)≤most) (hxl:all.length<x+(place+4)) :
  Calls Tryz.prog 219 #[.pointer (some p0),.pointer (some p1)] w fun e w'=>∃ fa,e = .panicked [aG fa]∧aQ w w' b fa nm part (E 1):=by
 have HC:=ae (fL b place part most nm sv all E w.drew hb hm hg.drew h.drew hn (by rw[hx];exact hv))
 rw[hx] at HC
 have hp0lt:=ab hp0
 have HG:=ae hg
 clear hg h hx
 go_enter Tryz.func219,Tryz.ntmps219
 go_wp2_with fail
 have hxb:x<9223372036854775808:=by omega
 go_region_dies
 all_goals
  go_wp2_with fail
  refine(aa HC).mono ?_
  rintro e w1 ⟨rfl,hr,hf⟩
  have q0:w1.cell? p0=some (.pointer (some ⟨b,0,none⟩)):=(hf.cell hp0lt n0).trans hp0
  have HR:=ae (And.intro hr hf)
  clear hr hf
 all_goals
  rename_i hK
  refine hK _ _ ?_
  clear hK
 ·refine wpAny_ready (rs:=[4]) (by kernel_rfl) (by simp) ?_
  refine AllReady.cons rfl (fun K hK=>?_) AllReady.nil
  go_simp
  go_wp2_with fail
  refine(bK b x (place+4) part nm sv all E w1 ((aa HG).drew.gn (aa HR).2 hb) (aa HR).1 hxl hxb).mono ?_
  rintro e w2 ⟨fa,rfl,hB⟩
  exact⟨rfl,fa,rfl,aQ.of (aa HR).1 ((pI b w).trans (aa HR).2 (fun _ _ h=>h)) hB⟩
 ·refine wpAny_ready (rs:=[4]) (by kernel_rfl) (by simp) ?_
  refine AllReady.cons rfl (fun K hK=>?_) AllReady.nil
  go_simp
  go_wp2_with fail
  refine(bK b x (place+4) part nm sv all E w1 ((aa HG).drew.gn (aa HR).2 hb) (aa HR).1 hxl hxb).mono ?_
  rintro e w2 ⟨fa,rfl,hB⟩
  exact⟨rfl,fa,rfl,aQ.of (aa HR).1 ((pI b w).trans (aa HR).2 (fun _ _ h=>h)) hB⟩
 ·refine wpAny_ready (rs:=[4]) (by kernel_rfl) (by simp) ?_
  refine AllReady.cons rfl (fun K hK=>?_) AllReady.nil
  go_simp
  go_wp2_with fail
  refine(bK b x (place+4) part nm sv all E w1 ((aa HG).drew.gn (aa HR).2 hb) (aa HR).1 hxl hxb).mono ?_
  rintro e w2 ⟨fa,rfl,hB⟩
  exact⟨rfl,fa,rfl,aQ.of (aa HR).1 ((pI b w).trans (aa HR).2 (fun _ _ h=>h)) hB⟩
 ·refine wpAny_ready (rs:=[4]) (by kernel_rfl) (by simp) ?_
  refine AllReady.cons rfl (fun K hK=>?_) AllReady.nil
  go_simp
  go_wp2_with fail
  refine(bK b x (place+4) part nm sv all E w1 ((aa HG).drew.gn (aa HR).2 hb) (aa HR).1 hxl hxb).mono ?_
  rintro e w2 ⟨fa,rfl,hB⟩
  exact⟨rfl,fa,rfl,aQ.of (aa HR).1 ((pI b w).trans (aa HR).2 (fun _ _ h=>h)) hB⟩
 ·refine wpAny_ready (rs:=[0]) (by kernel_rfl) (by simp) ?_
  refine AllReady.cons rfl (fun K hK=>?_) AllReady.nil
  go_simp
  refine hK _ _ ?_
  clear hK K
  refine wpAny_ready (rs:=[4]) (by kernel_rfl) (by simp) ?_
  refine AllReady.cons rfl (fun K hK=>?_) AllReady.nil
  go_simp
  go_wp2_with fail
  refine(bK b x (place+4) part nm sv all E w1 ((aa HG).drew.gn (aa HR).2 hb) (aa HR).1 hxl hxb).mono ?_
  rintro e w2 ⟨fa,rfl,hB⟩
  exact⟨rfl,fa,rfl,aQ.of (aa HR).1 ((pI b w).trans (aa HR).2 (fun _ _ h=>h)) hB⟩
 ·refine wpAny_ready (rs:=[4]) (by kernel_rfl) (by simp) ?_
  refine AllReady.cons rfl (fun K hK=>?_) AllReady.nil
  go_simp
  go_wp2_with fail
  refine(bK b x (place+4) part nm sv all E w1 ((aa HG).drew.gn (aa HR).2 hb) (aa HR).1 hxl hxb).mono ?_
  rintro e w2 ⟨fa,rfl,hB⟩
  exact⟨rfl,fa,rfl,aQ.of (aa HR).1 ((pI b w).trans (aa HR).2 (fun _ _ h=>h)) hB⟩
 ·refine wpAny_ready (rs:=[4]) (by kernel_rfl) (by simp) ?_
  refine AllReady.cons rfl (fun K hK=>?_) AllReady.nil
  go_simp
  go_wp2_with fail
  refine(bK b x (place+4) part nm sv all E w1 ((aa HG).drew.gn (aa HR).2 hb) (aa HR).1 hxl hxb).mono ?_
  rintro e w2 ⟨fa,rfl,hB⟩
  exact⟨rfl,fa,rfl,aQ.of (aa HR).1 ((pI b w).trans (aa HR).2 (fun _ _ h=>h)) hB⟩
 ·refine wpAny_ready (rs:=[0]) (by kernel_rfl) (by simp) ?_
  refine AllReady.cons rfl (fun K hK=>?_) AllReady.nil
  go_simp
  refine hK _ _ ?_
  clear hK K
  refine wpAny_ready (rs:=[4]) (by kernel_rfl) (by simp) ?_
  refine AllReady.cons rfl (fun K hK=>?_) AllReady.nil
  go_simp
  go_wp2_with fail
  refine(bK b x (place+4) part nm sv all E w1 ((aa HG).drew.gn (aa HR).2 hb) (aa HR).1 hxl hxb).mono ?_
  rintro e w2 ⟨fa,rfl,hB⟩
  exact⟨rfl,fa,rfl,aQ.of (aa HR).1 ((pI b w).trans (aa HR).2 (fun _ _ h=>h)) hB⟩
end Go.Proofs.YtdcopmkgmbiikaaGreatDoor
