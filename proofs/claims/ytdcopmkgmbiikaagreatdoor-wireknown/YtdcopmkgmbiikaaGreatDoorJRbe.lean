import Derived.Test.YtdcopmkgmbiikaaGreatDoorJRbc
import Derived.Test.YtdcopmkgmbiikaaGreatDoorJRbd
namespace Go.Proofs.YtdcopmkgmbiikaaGreatDoor
open Go.RowKit
theorem zm (b:Nat) (F:Nat→Prop) (s:dy) (E:Nat→Addr) (w:World) (hg:Gl w E) (h:R w b F s) (hn:s.f=none) (hl:s.all.length<1+s.place) :
  Calls Tryz.prog 191 #[.pointer (some ⟨b,0,none⟩)] w fun e w'=>e = .returned (.int .u8 0)∧∃ F',R w' b F' { s with f:=some (s.nm,s.place,E 1) } ∧ Ch w w' F F':=by
 have hlt:=h.lt b h.fb
 have hlo:=h.lo b h.fb
 have hmf:=mf
 have H:=ae (And.intro h (And.intro hn hg))
 clear h hn hg
 go_enter Tryz.func191,Tryz.ntmps191
 go_wp2_with fail
 refine(og b 212 _ F s (E 1) _ ((aa H).1.frame (al w _) (fun _ _ h=>h)) (aa H).2.1 (enters Tryz.func212 (by kernel_rfl) (by kernel_rfl) _) (fun wk sv hf hr=>qs b s.place s.place ⟨w.heap.size,0,none⟩ s.nm sv s.all E wk (((aa H).2.2.aR (al w _)).gn hf hlo) hr ((hf.cell (by simp) (by show ¬ w.heap.size=b;omega)).trans (ua _ _ _)) hl)).mono ?_
 rintro e w' ⟨rfl,F',hR,hc⟩
 have HR:=ae (And.intro hR hc)
 clear hR hc
 go_wp2_with fail
 go_ret
 exact⟨rfl,F',(aa HR).1,(aa HR).2.behind (al w _)⟩
theorem ye (b:Nat) (F:Nat→Prop) (s:dy) (E:Nat→Addr) (w:World) (hg:Gl w E) (h:R w b F s) (hn:s.f=none) (hl:s.all.length<4+s.place) :
  Calls Tryz.prog 192 #[.pointer (some ⟨b,0,none⟩)] w fun e w'=>e = .returned (.int .u32 0)∧∃ F',R w' b F' { s with f:=some (s.nm,s.place,E 1) } ∧ Ch w w' F F':=by
 have hlt:=h.lt b h.fb
 have hlo:=h.lo b h.fb
 have hmf:=mf
 have H:=ae (And.intro h (And.intro hn hg))
 clear h hn hg
 go_enter Tryz.func192,Tryz.ntmps192
 go_wp2_with fail
 refine(mM b 215 _ F s (E 1) _ ((aa H).1.frame (al w _) (fun _ _ h=>h)) (aa H).2.1 (enters Tryz.func215 (by kernel_rfl) (by kernel_rfl) _) (fun wk sv hf hr=>px b s.place s.place ⟨w.heap.size,0,none⟩ s.nm sv s.all E wk (((aa H).2.2.aR (al w _)).gn hf hlo) hr ((hf.cell (by simp) (by show ¬ w.heap.size=b;omega)).trans (ua _ _ _)) hl)).mono ?_
 rintro e w' ⟨rfl,F',hR,hc⟩
 have HR:=ae (And.intro hR hc)
 clear hR hc
 go_wp2_with fail
 go_ret
 exact⟨rfl,F',(aa HR).1,(aa HR).2.behind (al w _)⟩
theorem vQ (b:Nat) (F:Nat→Prop) (s:dy) (w:World) (h:R w b F s) (hn:s.f≠none) :
  Calls Tryz.prog 191 #[.pointer (some ⟨b,0,none⟩)] w fun e w'=>e = .returned (.int .u8 0)∧∃ F',R w' b F' s∧Ch w w' F F':=by
 have hmf:=mf
 have H:=ae (And.intro h hn)
 clear h hn
 go_enter Tryz.func191,Tryz.ntmps191
 go_wp2_with fail
 refine(lh b 212 _ F s _ ((aa H).1.frame (al w _) (fun _ _ h=>h)) (aa H).2).mono ?_
 rintro e w' ⟨rfl,F',hR,hc⟩
 have HR:=ae (And.intro hR hc)
 clear hR hc
 go_wp2_with fail
 go_ret
 exact⟨rfl,F',(aa HR).1,(aa HR).2.behind (al w _)⟩
theorem tS (b:Nat) (F:Nat→Prop) (s:dy) (w:World) (h:R w b F s) (hn:s.f≠none) :
  Calls Tryz.prog 192 #[.pointer (some ⟨b,0,none⟩)] w fun e w'=>e = .returned (.int .u32 0)∧∃ F',R w' b F' s∧Ch w w' F F':=by
 have hmf:=mf
 have H:=ae (And.intro h hn)
 clear h hn
 go_enter Tryz.func192,Tryz.ntmps192
 go_wp2_with fail
 refine(kH b 215 _ F s _ ((aa H).1.frame (al w _) (fun _ _ h=>h)) (aa H).2).mono ?_
 rintro e w' ⟨rfl,F',hR,hc⟩
 have HR:=ae (And.intro hR hc)
 clear hR hc
 go_wp2_with fail
 go_ret
 exact⟨rfl,F',(aa HR).1,(aa HR).2.behind (al w _)⟩
theorem tA (b:Nat) (F:Nat→Prop) (s:dy) (w:World) (h:R w b F s) (hn:s.f≠none) :
  Calls Tryz.prog 193 #[.pointer (some ⟨b,0,none⟩)] w fun e w'=>e = .returned (.float .f32 0)∧∃ F',R w' b F' s∧Ch w w' F F':=by
 have hmf:=mf
 have H:=ae (And.intro h hn)
 clear h hn
 go_enter Tryz.func193,Tryz.ntmps193
 go_wp2_with fail
 refine(jH b 217 _ F s _ ((aa H).1.frame (al w _) (fun _ _ h=>h)) (aa H).2).mono ?_
 rintro e w' ⟨rfl,F',hR,hc⟩
 have HR:=ae (And.intro hR hc)
 clear hR hc
 go_wp2_with fail
 go_ret
 exact⟨rfl,F',(aa HR).1,(aa HR).2.behind (al w _)⟩
theorem sO (b:Nat) (F:Nat→Prop) (s:dy) (E:Nat→Addr) (w:World) (hg:Gl w E) (h:R w b F s) (hn:s.f=none) (hl:s.all.length<4+s.place) :
  Calls Tryz.prog 193 #[.pointer (some ⟨b,0,none⟩)] w fun e w'=>e = .returned (.float .f32 0)∧∃ F',R w' b F' { s with f:=some (s.nm,s.place,E 1) } ∧ Ch w w' F F':=by
 have hlt:=h.lt b h.fb
 have hlo:=h.lo b h.fb
 have hmf:=mf
 have H:=ae (And.intro h (And.intro hn hg))
 clear h hn hg
 go_enter Tryz.func193,Tryz.ntmps193
 go_wp2_with fail
 refine(gy b 217 _ F s (E 1) _ ((aa H).1.frame (al w _) (fun _ _ h=>h)) (aa H).2.1 (enters Tryz.func217 (by kernel_rfl) (by kernel_rfl) _) (fun wk sv hf hr=>uK b s.place s.place ⟨w.heap.size,0,none⟩ s.nm sv s.all E wk (((aa H).2.2.aR (al w _)).gn hf hlo) hr ((hf.cell (by simp) (by show ¬ w.heap.size=b;omega)).trans (ua _ _ _)) hl)).mono ?_
 rintro e w' ⟨rfl,F',hR,hc⟩
 have HR:=ae (And.intro hR hc)
 clear hR hc
 go_wp2_with fail
 go_ret
 exact⟨rfl,F',(aa HR).1,(aa HR).2.behind (al w _)⟩
theorem xp (b:Nat) (F:Nat→Prop) (s:dy) (E:Nat→Addr) (er:Addr) (w:World) (hg:Gl w E) (hr:Rg w er) (h:R w b F s) (hn:s.f=none) (hl:4+s.place≤s.all.length) (hq:bM (val ((s.all.drop s.place).take 4))=false) :
  Calls Tryz.prog 193 #[.pointer (some ⟨b,0,none⟩)] w fun e w'=>e = .returned (.float .f32 0)∧∃ F',R w' b F' { s with f:=some (s.nm,s.place,er) } ∧ Ch w w' F F':=by
 have hlt:=h.lt b h.fb
 have hlo:=h.lo b h.fb
 have hmf:=mf
 have H:=ae (And.intro h (And.intro hn (And.intro hg (And.intro hr hq))))
 clear h hn hg hr hq
 go_enter Tryz.func193,Tryz.ntmps193
 go_wp2_with fail
 refine(gy b 217 _ F s er _ ((aa H).1.frame (al w _) (fun _ _ h=>h)) (aa H).2.1 (enters Tryz.func217 (by kernel_rfl) (by kernel_rfl) _) (fun wk sv hf hr=>uI b s.place s.place ⟨w.heap.size,0,none⟩ er s.nm sv s.all E wk hlo (((aa H).2.2.1.aR (al w _)).gn hf hlo) (((aa H).2.2.2.1.aR (al w _)).fr hf (fun k e=>by have h':k=b:=e;omega)) hr (by show w.heap.size≠b;omega) ((hf.cell (by simp) (by show ¬ w.heap.size=b;omega)).trans (ua _ _ _)) hl (aa H).2.2.2.2)).mono ?_
 rintro e w' ⟨rfl,F',hR,hc⟩
 have HR:=ae (And.intro hR hc)
 clear hR hc
 go_wp2_with fail
 go_ret
 exact⟨rfl,F',(aa HR).1,(aa HR).2.behind (al w _)⟩
theorem lV (b:Nat) (most:Int) (F:Nat→Prop) (s:dy) (E:Nat→Addr) (ea:Addr) (w:World) (hc:iJ s.all s.place most E ea) (hm:most<9223372036854775808) (hg:Gl w E) (h:R w b F s) (hn:s.f=none) :
  Calls Tryz.prog 195 #[.pointer (some ⟨b,0,none⟩),.int .i64 most] w fun e w'=>e = .returned (.slice none 0 0)∧∃ F',R w' b F' { s with f:=some (s.nm,s.place,ea) } ∧ Ch w w' F F':=by
 have hlt:=h.lt b h.fb
 have hlo:=h.lo b h.fb
 have hmf:=mf
 have H:=ae (And.intro h (And.intro hn (And.intro hg hc)))
 clear h hn hg hc
 go_enter Tryz.func195,Tryz.ntmps195
 go_wp2_with fail
 refine(iW b 223 _ F s ea _ ((aa H).1.frame (aY w _ _) (fun _ _ h=>h)) (aa H).2.1 (enters Tryz.func223 (by kernel_rfl) (by kernel_rfl) _) (fun wk sv hf hr=>qj b s.place s.place most ⟨w.heap.size,0,none⟩ ⟨w.heap.size+1,0,none⟩ ea s.nm sv s.all E wk (aa H).2.2.2 hlo hm (((aa H).2.2.1.aR (aY w _ _)).gn hf hlo) hr ((hf.cell (by simp <;> omega) (by show ¬ w.heap.size=b;omega)).trans (by simp)) ((hf.cell (by simp) (by show ¬ w.heap.size+1=b;omega)).trans (by simp)))).mono ?_
 rintro e w' ⟨rfl,F',hR,hc⟩
 have HR:=ae (And.intro hR hc)
 clear hR hc
 go_wp2_with fail
 go_ret
 exact⟨rfl,F',(aa HR).1,(aa HR).2.behind (aY w _ _)⟩
theorem pb (b:Nat) (most:Int) (F:Nat→Prop) (s:dy) (w:World) (h:R w b F s) (hn:s.f≠none) :
  Calls Tryz.prog 195 #[.pointer (some ⟨b,0,none⟩),.int .i64 most] w fun e w'=>e = .returned (.slice none 0 0)∧∃ F',R w' b F' s∧Ch w w' F F':=by
 have hmf:=mf
 have H:=ae (And.intro h hn)
 clear h hn
 go_enter Tryz.func195,Tryz.ntmps195
 go_wp2_with fail
 refine(k8 b 223 _ F s _ ((aa H).1.frame (aY w _ _) (fun _ _ h=>h)) (aa H).2).mono ?_
 rintro e w' ⟨rfl,F',hR,hc⟩
 have HR:=ae (And.intro hR hc)
 clear hR hc
 go_wp2_with fail
 go_ret
 exact⟨rfl,F',(aa HR).1,(aa HR).2.behind (aY w _ _)⟩
theorem nM (b:Nat) (most:Int) (F:Nat→Prop) (s:dy) (E:Nat→Addr) (ea:Addr) (w:World) (hc:iJ s.all s.place most E ea) (hm:most<9223372036854775808) (hg:Gl w E) (h:R w b F s) (hn:s.f=none) :
  Calls Tryz.prog 194 #[.pointer (some ⟨b,0,none⟩),.int .i64 most] w fun e w'=>e = .returned (.string ⟨#[]⟩)∧∃ F',R w' b F' { s with f:=some (s.nm,s.place,ea) } ∧ Ch w w' F F':=by
 have hlt:=h.lt b h.fb
 have hlo:=h.lo b h.fb
 have hmf:=mf
 have H:=ae (And.intro h (And.intro hn (And.intro hg hc)))
 clear h hn hg hc
 go_enter Tryz.func194,Tryz.ntmps194
 go_wp2_with fail
 refine(il b 219 _ F s ea _ ((aa H).1.frame (aY w _ _) (fun _ _ h=>h)) (aa H).2.1 (enters Tryz.func219 (by kernel_rfl) (by kernel_rfl) _) (fun wk sv hf hr=>sN b s.place s.place most ⟨w.heap.size,0,none⟩ ⟨w.heap.size+1,0,none⟩ ea s.nm sv s.all E wk (aa H).2.2.2 hlo hm (((aa H).2.2.1.aR (aY w _ _)).gn hf hlo) hr ((hf.cell (by simp <;> omega) (by show ¬ w.heap.size=b;omega)).trans (by simp)) ((hf.cell (by simp) (by show ¬ w.heap.size+1=b;omega)).trans (by simp)))).mono ?_
 rintro e w' ⟨rfl,F',hR,hc⟩
 have HR:=ae (And.intro hR hc)
 clear hR hc
 go_wp2_with fail
 go_ret
 exact⟨rfl,F',(aa HR).1,(aa HR).2.behind (aY w _ _)⟩
theorem qP (b:Nat) (most:Int) (F:Nat→Prop) (s:dy) (w:World) (h:R w b F s) (hn:s.f≠none) :
  Calls Tryz.prog 194 #[.pointer (some ⟨b,0,none⟩),.int .i64 most] w fun e w'=>e = .returned (.string ⟨#[]⟩)∧∃ F',R w' b F' s∧Ch w w' F F':=by
 have hmf:=mf
 have H:=ae (And.intro h hn)
 clear h hn
 go_enter Tryz.func194,Tryz.ntmps194
 go_wp2_with fail
 refine(kJ b 219 _ F s _ ((aa H).1.frame (aY w _ _) (fun _ _ h=>h)) (aa H).2).mono ?_
 rintro e w' ⟨rfl,F',hR,hc⟩
 have HR:=ae (And.intro hR hc)
 clear hR hc
 go_wp2_with fail
 go_ret
 exact⟨rfl,F',(aa HR).1,(aa HR).2.behind (aY w _ _)⟩
theorem ma (b:Nat) (most:Int) (F:Nat→Prop) (s:dy) (E:Nat→Addr) (ea:Addr) (w:World) (hc:iJ s.all s.place most E ea) (hm:most<9223372036854775808) (hg:Gl w E) (h:R w b F s) (hn:s.f=none) :
  Calls Tryz.prog 196 #[.pointer (some ⟨b,0,none⟩),.int .i64 most] w fun e w'=>e = .returned (.int .i64 0)∧∃ F',R w' b F' { s with f:=some (s.nm,s.place,ea) } ∧ Ch w w' F F':=by
 have hlt:=h.lt b h.fb
 have hlo:=h.lo b h.fb
 have hmf:=mf
 have H:=ae (And.intro h (And.intro hn (And.intro hg hc)))
 clear h hn hg hc
 go_enter Tryz.func196,Tryz.ntmps196
 go_wp2_with fail
 refine(sq b 225 _ F s ea _ ((aa H).1.frame (aY w _ _) (fun _ _ h=>h)) (aa H).2.1 (enters Tryz.func225 (by kernel_rfl) (by kernel_rfl) _) (fun wk sv hf hr=>qW b s.place s.place most ⟨w.heap.size,0,none⟩ ⟨w.heap.size+1,0,none⟩ ea s.nm sv s.all E wk (aa H).2.2.2 hlo hm (((aa H).2.2.1.aR (aY w _ _)).gn hf hlo) hr ((hf.cell (by simp <;> omega) (by show ¬ w.heap.size=b;omega)).trans (by simp)) ((hf.cell (by simp) (by show ¬ w.heap.size+1=b;omega)).trans (by simp)))).mono ?_
 rintro e w' ⟨rfl,F',hR,hc⟩
 have HR:=ae (And.intro hR hc)
 clear hR hc
 go_wp2_with fail
 go_ret
 exact⟨rfl,F',(aa HR).1,(aa HR).2.behind (aY w _ _)⟩
theorem py (b:Nat) (most:Int) (F:Nat→Prop) (s:dy) (w:World) (h:R w b F s) (hn:s.f≠none) :
  Calls Tryz.prog 196 #[.pointer (some ⟨b,0,none⟩),.int .i64 most] w fun e w'=>e = .returned (.int .i64 0)∧∃ F',R w' b F' s∧Ch w w' F F':=by
 have hmf:=mf
 have H:=ae (And.intro h hn)
 clear h hn
 go_enter Tryz.func196,Tryz.ntmps196
 go_wp2_with fail
 refine(pF b 225 _ F s _ ((aa H).1.frame (aY w _ _) (fun _ _ h=>h)) (aa H).2).mono ?_
 rintro e w' ⟨rfl,F',hR,hc⟩
 have HR:=ae (And.intro hR hc)
 clear hR hc
 go_wp2_with fail
 go_ret
 exact⟨rfl,F',(aa HR).1,(aa HR).2.behind (aY w _ _)⟩
theorem se (b x:Nat) (most:Int) (F:Nat→Prop) (s:dy) (E:Nat→Addr) (w:World) (hm:most<9223372036854775808) (hg:Gl w E) (h:R w b F s) (hn:s.f=none) (hx:val ((s.all.drop s.place).take 4)=x) (hl:4+s.place≤s.all.length) (hv:(x:Int)≤most) (hxl:s.all.length<x+(s.place+4)) :
  Calls Tryz.prog 195 #[.pointer (some ⟨b,0,none⟩),.int .i64 most] w fun e w'=>e = .returned (.slice none 0 0)∧∃ F',R w' b F' { s with f:=some (s.nm,s.place,E 1) } ∧ Ch w w' F F':=by
 have hlt:=h.lt b h.fb
 have hlo:=h.lo b h.fb
 have hmf:=mf
 have H:=ae (And.intro h (And.intro hn (And.intro hg hx)))
 clear h hn hg hx
 go_enter Tryz.func195,Tryz.ntmps195
 go_wp2_with fail
 refine(iW b 223 _ F s (E 1) _ ((aa H).1.frame (aY w _ _) (fun _ _ h=>h)) (aa H).2.1 (enters Tryz.func223 (by kernel_rfl) (by kernel_rfl) _) (fun wk sv hf hr=>qK b s.place s.place x most ⟨w.heap.size,0,none⟩ ⟨w.heap.size+1,0,none⟩ s.nm sv s.all E wk hlo hm (((aa H).2.2.1.aR (aY w _ _)).gn hf hlo) hr ((hf.cell (by simp <;> omega) (by show ¬ w.heap.size=b;omega)).trans (by simp)) ((hf.cell (by simp) (by show ¬ w.heap.size+1=b;omega)).trans (by simp)) (by show w.heap.size≠b;omega) (aa H).2.2.2 hl hv hxl)).mono ?_
 rintro e w' ⟨rfl,F',hR,hc⟩
 have HR:=ae (And.intro hR hc)
 clear hR hc
 go_wp2_with fail
 go_ret
 exact⟨rfl,F',(aa HR).1,(aa HR).2.behind (aY w _ _)⟩
theorem vE (b x:Nat) (most:Int) (F:Nat→Prop) (s:dy) (E:Nat→Addr) (w:World) (hm:most<9223372036854775808) (hg:Gl w E) (h:R w b F s) (hn:s.f=none) (hx:val ((s.all.drop s.place).take 4)=x) (hl:4+s.place≤s.all.length) (hv:(x:Int)≤most) (hxl:s.all.length<x+(s.place+4)) :
  Calls Tryz.prog 194 #[.pointer (some ⟨b,0,none⟩),.int .i64 most] w fun e w'=>e = .returned (.string ⟨#[]⟩)∧∃ F',R w' b F' { s with f:=some (s.nm,s.place,E 1) } ∧ Ch w w' F F':=by
 have hlt:=h.lt b h.fb
 have hlo:=h.lo b h.fb
 have hmf:=mf
 have H:=ae (And.intro h (And.intro hn (And.intro hg hx)))
 clear h hn hg hx
 go_enter Tryz.func194,Tryz.ntmps194
 go_wp2_with fail
 refine(il b 219 _ F s (E 1) _ ((aa H).1.frame (aY w _ _) (fun _ _ h=>h)) (aa H).2.1 (enters Tryz.func219 (by kernel_rfl) (by kernel_rfl) _) (fun wk sv hf hr=>tt b s.place s.place x most ⟨w.heap.size,0,none⟩ ⟨w.heap.size+1,0,none⟩ s.nm sv s.all E wk hlo hm (((aa H).2.2.1.aR (aY w _ _)).gn hf hlo) hr ((hf.cell (by simp <;> omega) (by show ¬ w.heap.size=b;omega)).trans (by simp)) ((hf.cell (by simp) (by show ¬ w.heap.size+1=b;omega)).trans (by simp)) (by show w.heap.size≠b;omega) (aa H).2.2.2 hl hv hxl)).mono ?_
 rintro e w' ⟨rfl,F',hR,hc⟩
 have HR:=ae (And.intro hR hc)
 clear hR hc
 go_wp2_with fail
 go_ret
 exact⟨rfl,F',(aa HR).1,(aa HR).2.behind (aY w _ _)⟩
end Go.Proofs.YtdcopmkgmbiikaaGreatDoor
