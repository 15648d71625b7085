import Derived.Test.YtdcopmkgmbiikaaGreatDoorKRbc
import Derived.Test.YtdcopmkgmbiikaaGreatDoorKRbd
namespace Go.Proofs.YtdcopmkgmbiikaaGreatDoor
open Go.RowKit
theorem Bf (b:Nat) (F:Nat→Prop) (s:dS) (E:Nat→Addr) (w:World) (hg:Gl w E) (h:R w b F s) (hn:s.f=none) (hl:s.all.length<1+s.place) :
  Calls Tryz.prog 191 #[.pointer (some ⟨b,0,none⟩)] w fun e w'=>e = .returned (.int .u8 0)∧∃ F',R w' b F' { s with f:=some (s.nm,s.place,E 1) } ∧ Ch w w' F F':=by
 have hlt:=h.lt b h.fb
 have hlo:=h.lo b h.fb
 have hmf:=mf
 have H:=ae (And.intro h (And.intro hn hg))
 clear h hn hg
 go_enter Tryz.func191,Tryz.ntmps191
 go_wp2_with fail
 refine(pN b 212 _ F s (E 1) _ ((aa H).1.frame (aB w _) (fun _ _ h=>h)) (aa H).2.1 (enters Tryz.func212 (by kernel_rfl) (by kernel_rfl) _) (fun wk sv hf hr=>qX b s.place s.place ⟨w.heap.size,0,none⟩ s.nm sv s.all E wk (((aa H).2.2.aD (aB w _)).gP hf hlo) hr ((hf.cell (by simp) (by show ¬ w.heap.size=b;omega)).trans (vK _ _ _)) hl)).mono ?_
 rintro e w' ⟨rfl,F',hR,hc⟩
 have HR:=ae (And.intro hR hc)
 clear hR hc
 go_wp2_with fail
 go_ret
 exact⟨rfl,F',(aa HR).1,(aa HR).2.behind (aB w _)⟩
theorem ym (b:Nat) (F:Nat→Prop) (s:dS) (E:Nat→Addr) (w:World) (hg:Gl w E) (h:R w b F s) (hn:s.f=none) (hl:s.all.length<4+s.place) :
  Calls Tryz.prog 192 #[.pointer (some ⟨b,0,none⟩)] w fun e w'=>e = .returned (.int .u32 0)∧∃ F',R w' b F' { s with f:=some (s.nm,s.place,E 1) } ∧ Ch w w' F F':=by
 have hlt:=h.lt b h.fb
 have hlo:=h.lo b h.fb
 have hmf:=mf
 have H:=ae (And.intro h (And.intro hn hg))
 clear h hn hg
 go_enter Tryz.func192,Tryz.ntmps192
 go_wp2_with fail
 refine(nK b 215 _ F s (E 1) _ ((aa H).1.frame (aB w _) (fun _ _ h=>h)) (aa H).2.1 (enters Tryz.func215 (by kernel_rfl) (by kernel_rfl) _) (fun wk sv hf hr=>pv b s.place s.place ⟨w.heap.size,0,none⟩ s.nm sv s.all E wk (((aa H).2.2.aD (aB w _)).gP hf hlo) hr ((hf.cell (by simp) (by show ¬ w.heap.size=b;omega)).trans (vK _ _ _)) hl)).mono ?_
 rintro e w' ⟨rfl,F',hR,hc⟩
 have HR:=ae (And.intro hR hc)
 clear hR hc
 go_wp2_with fail
 go_ret
 exact⟨rfl,F',(aa HR).1,(aa HR).2.behind (aB w _)⟩
theorem xj (b:Nat) (F:Nat→Prop) (s:dS) (w:World) (h:R w b F s) (hn:s.f≠none) :
  Calls Tryz.prog 191 #[.pointer (some ⟨b,0,none⟩)] w fun e w'=>e = .returned (.int .u8 0)∧∃ F',R w' b F' s∧Ch w w' F F':=by
 have hmf:=mf
 have H:=ae (And.intro h hn)
 clear h hn
 go_enter Tryz.func191,Tryz.ntmps191
 go_wp2_with fail
 refine(mr b 212 _ F s _ ((aa H).1.frame (aB w _) (fun _ _ h=>h)) (aa H).2).mono ?_
 rintro e w' ⟨rfl,F',hR,hc⟩
 have HR:=ae (And.intro hR hc)
 clear hR hc
 go_wp2_with fail
 go_ret
 exact⟨rfl,F',(aa HR).1,(aa HR).2.behind (aB w _)⟩
theorem tU (b:Nat) (F:Nat→Prop) (s:dS) (w:World) (h:R w b F s) (hn:s.f≠none) :
  Calls Tryz.prog 192 #[.pointer (some ⟨b,0,none⟩)] w fun e w'=>e = .returned (.int .u32 0)∧∃ F',R w' b F' s∧Ch w w' F F':=by
 have hmf:=mf
 have H:=ae (And.intro h hn)
 clear h hn
 go_enter Tryz.func192,Tryz.ntmps192
 go_wp2_with fail
 refine(lf b 215 _ F s _ ((aa H).1.frame (aB w _) (fun _ _ h=>h)) (aa H).2).mono ?_
 rintro e w' ⟨rfl,F',hR,hc⟩
 have HR:=ae (And.intro hR hc)
 clear hR hc
 go_wp2_with fail
 go_ret
 exact⟨rfl,F',(aa HR).1,(aa HR).2.behind (aB w _)⟩
theorem uo (b:Nat) (F:Nat→Prop) (s:dS) (w:World) (h:R w b F s) (hn:s.f≠none) :
  Calls Tryz.prog 193 #[.pointer (some ⟨b,0,none⟩)] w fun e w'=>e = .returned (.float .f32 0)∧∃ F',R w' b F' s∧Ch w w' F F':=by
 have hmf:=mf
 have H:=ae (And.intro h hn)
 clear h hn
 go_enter Tryz.func193,Tryz.ntmps193
 go_wp2_with fail
 refine(kJ b 217 _ F s _ ((aa H).1.frame (aB w _) (fun _ _ h=>h)) (aa H).2).mono ?_
 rintro e w' ⟨rfl,F',hR,hc⟩
 have HR:=ae (And.intro hR hc)
 clear hR hc
 go_wp2_with fail
 go_ret
 exact⟨rfl,F',(aa HR).1,(aa HR).2.behind (aB w _)⟩
theorem uR (b:Nat) (F:Nat→Prop) (s:dS) (E:Nat→Addr) (w:World) (hg:Gl w E) (h:R w b F s) (hn:s.f=none) (hl:s.all.length<4+s.place) :
  Calls Tryz.prog 193 #[.pointer (some ⟨b,0,none⟩)] w fun e w'=>e = .returned (.float .f32 0)∧∃ F',R w' b F' { s with f:=some (s.nm,s.place,E 1) } ∧ Ch w w' F F':=by
 have hlt:=h.lt b h.fb
 have hlo:=h.lo b h.fb
 have hmf:=mf
 have H:=ae (And.intro h (And.intro hn hg))
 clear h hn hg
 go_enter Tryz.func193,Tryz.ntmps193
 go_wp2_with fail
 refine(gY b 217 _ F s (E 1) _ ((aa H).1.frame (aB w _) (fun _ _ h=>h)) (aa H).2.1 (enters Tryz.func217 (by kernel_rfl) (by kernel_rfl) _) (fun wk sv hf hr=>xY b s.place s.place ⟨w.heap.size,0,none⟩ s.nm sv s.all E wk (((aa H).2.2.aD (aB w _)).gP hf hlo) hr ((hf.cell (by simp) (by show ¬ w.heap.size=b;omega)).trans (vK _ _ _)) hl)).mono ?_
 rintro e w' ⟨rfl,F',hR,hc⟩
 have HR:=ae (And.intro hR hc)
 clear hR hc
 go_wp2_with fail
 go_ret
 exact⟨rfl,F',(aa HR).1,(aa HR).2.behind (aB w _)⟩
theorem yl (b:Nat) (F:Nat→Prop) (s:dS) (E:Nat→Addr) (er:Addr) (w:World) (hg:Gl w E) (hr:Rg w er) (h:R w b F s) (hn:s.f=none) (hl:4+s.place≤s.all.length) (hq:ch (val ((s.all.drop s.place).take 4))=false) :
  Calls Tryz.prog 193 #[.pointer (some ⟨b,0,none⟩)] w fun e w'=>e = .returned (.float .f32 0)∧∃ F',R w' b F' { s with f:=some (s.nm,s.place,er) } ∧ Ch w w' F F':=by
 have hlt:=h.lt b h.fb
 have hlo:=h.lo b h.fb
 have hmf:=mf
 have H:=ae (And.intro h (And.intro hn (And.intro hg (And.intro hr hq))))
 clear h hn hg hr hq
 go_enter Tryz.func193,Tryz.ntmps193
 go_wp2_with fail
 refine(gY b 217 _ F s er _ ((aa H).1.frame (aB w _) (fun _ _ h=>h)) (aa H).2.1 (enters Tryz.func217 (by kernel_rfl) (by kernel_rfl) _) (fun wk sv hf hr=>wm b s.place s.place ⟨w.heap.size,0,none⟩ er s.nm sv s.all E wk hlo (((aa H).2.2.1.aD (aB w _)).gP hf hlo) (((aa H).2.2.2.1.aD (aB w _)).fr hf (fun k e=>by have h':k=b:=e;omega)) hr (by show w.heap.size≠b;omega) ((hf.cell (by simp) (by show ¬ w.heap.size=b;omega)).trans (vK _ _ _)) hl (aa H).2.2.2.2)).mono ?_
 rintro e w' ⟨rfl,F',hR,hc⟩
 have HR:=ae (And.intro hR hc)
 clear hR hc
 go_wp2_with fail
 go_ret
 exact⟨rfl,F',(aa HR).1,(aa HR).2.behind (aB w _)⟩
theorem lM (b:Nat) (most:Int) (F:Nat→Prop) (s:dS) (E:Nat→Addr) (ea:Addr) (w:World) (hc:jB s.all s.place most E ea) (hm:most<9223372036854775808) (hg:Gl w E) (h:R w b F s) (hn:s.f=none) :
  Calls Tryz.prog 195 #[.pointer (some ⟨b,0,none⟩),.int .i64 most] w fun e w'=>e = .returned (.slice none 0 0)∧∃ F',R w' b F' { s with f:=some (s.nm,s.place,ea) } ∧ Ch w w' F F':=by
 have hlt:=h.lt b h.fb
 have hlo:=h.lo b h.fb
 have hmf:=mf
 have H:=ae (And.intro h (And.intro hn (And.intro hg hc)))
 clear h hn hg hc
 go_enter Tryz.func195,Tryz.ntmps195
 go_wp2_with fail
 refine(j7 b 223 _ F s ea _ ((aa H).1.frame (bd w _ _) (fun _ _ h=>h)) (aa H).2.1 (enters Tryz.func223 (by kernel_rfl) (by kernel_rfl) _) (fun wk sv hf hr=>rW b s.place s.place most ⟨w.heap.size,0,none⟩ ⟨w.heap.size+1,0,none⟩ ea s.nm sv s.all E wk (aa H).2.2.2 hlo hm (((aa H).2.2.1.aD (bd w _ _)).gP hf hlo) hr ((hf.cell (by simp <;> omega) (by show ¬ w.heap.size=b;omega)).trans (by simp)) ((hf.cell (by simp) (by show ¬ w.heap.size+1=b;omega)).trans (by simp)))).mono ?_
 rintro e w' ⟨rfl,F',hR,hc⟩
 have HR:=ae (And.intro hR hc)
 clear hR hc
 go_wp2_with fail
 go_ret
 exact⟨rfl,F',(aa HR).1,(aa HR).2.behind (bd w _ _)⟩
theorem pw (b:Nat) (most:Int) (F:Nat→Prop) (s:dS) (w:World) (h:R w b F s) (hn:s.f≠none) :
  Calls Tryz.prog 195 #[.pointer (some ⟨b,0,none⟩),.int .i64 most] w fun e w'=>e = .returned (.slice none 0 0)∧∃ F',R w' b F' s∧Ch w w' F F':=by
 have hmf:=mf
 have H:=ae (And.intro h hn)
 clear h hn
 go_enter Tryz.func195,Tryz.ntmps195
 go_wp2_with fail
 refine(m7 b 223 _ F s _ ((aa H).1.frame (bd w _ _) (fun _ _ h=>h)) (aa H).2).mono ?_
 rintro e w' ⟨rfl,F',hR,hc⟩
 have HR:=ae (And.intro hR hc)
 clear hR hc
 go_wp2_with fail
 go_ret
 exact⟨rfl,F',(aa HR).1,(aa HR).2.behind (bd w _ _)⟩
theorem oD (b:Nat) (most:Int) (F:Nat→Prop) (s:dS) (E:Nat→Addr) (ea:Addr) (w:World) (hc:jB s.all s.place most E ea) (hm:most<9223372036854775808) (hg:Gl w E) (h:R w b F s) (hn:s.f=none) :
  Calls Tryz.prog 194 #[.pointer (some ⟨b,0,none⟩),.int .i64 most] w fun e w'=>e = .returned (.string ⟨#[]⟩)∧∃ F',R w' b F' { s with f:=some (s.nm,s.place,ea) } ∧ Ch w w' F F':=by
 have hlt:=h.lt b h.fb
 have hlo:=h.lo b h.fb
 have hmf:=mf
 have H:=ae (And.intro h (And.intro hn (And.intro hg hc)))
 clear h hn hg hc
 go_enter Tryz.func194,Tryz.ntmps194
 go_wp2_with fail
 refine(iZ b 219 _ F s ea _ ((aa H).1.frame (bd w _ _) (fun _ _ h=>h)) (aa H).2.1 (enters Tryz.func219 (by kernel_rfl) (by kernel_rfl) _) (fun wk sv hf hr=>tD b s.place s.place most ⟨w.heap.size,0,none⟩ ⟨w.heap.size+1,0,none⟩ ea s.nm sv s.all E wk (aa H).2.2.2 hlo hm (((aa H).2.2.1.aD (bd w _ _)).gP hf hlo) hr ((hf.cell (by simp <;> omega) (by show ¬ w.heap.size=b;omega)).trans (by simp)) ((hf.cell (by simp) (by show ¬ w.heap.size+1=b;omega)).trans (by simp)))).mono ?_
 rintro e w' ⟨rfl,F',hR,hc⟩
 have HR:=ae (And.intro hR hc)
 clear hR hc
 go_wp2_with fail
 go_ret
 exact⟨rfl,F',(aa HR).1,(aa HR).2.behind (bd w _ _)⟩
theorem qD (b:Nat) (most:Int) (F:Nat→Prop) (s:dS) (w:World) (h:R w b F s) (hn:s.f≠none) :
  Calls Tryz.prog 194 #[.pointer (some ⟨b,0,none⟩),.int .i64 most] w fun e w'=>e = .returned (.string ⟨#[]⟩)∧∃ F',R w' b F' s∧Ch w w' F F':=by
 have hmf:=mf
 have H:=ae (And.intro h hn)
 clear h hn
 go_enter Tryz.func194,Tryz.ntmps194
 go_wp2_with fail
 refine(ld b 219 _ F s _ ((aa H).1.frame (bd w _ _) (fun _ _ h=>h)) (aa H).2).mono ?_
 rintro e w' ⟨rfl,F',hR,hc⟩
 have HR:=ae (And.intro hR hc)
 clear hR hc
 go_wp2_with fail
 go_ret
 exact⟨rfl,F',(aa HR).1,(aa HR).2.behind (bd w _ _)⟩
theorem lL (b:Nat) (most:Int) (F:Nat→Prop) (s:dS) (E:Nat→Addr) (ea:Addr) (w:World) (hc:jB s.all s.place most E ea) (hm:most<9223372036854775808) (hg:Gl w E) (h:R w b F s) (hn:s.f=none) :
  Calls Tryz.prog 196 #[.pointer (some ⟨b,0,none⟩),.int .i64 most] w fun e w'=>e = .returned (.int .i64 0)∧∃ F',R w' b F' { s with f:=some (s.nm,s.place,ea) } ∧ Ch w w' F F':=by
 have hlt:=h.lt b h.fb
 have hlo:=h.lo b h.fb
 have hmf:=mf
 have H:=ae (And.intro h (And.intro hn (And.intro hg hc)))
 clear h hn hg hc
 go_enter Tryz.func196,Tryz.ntmps196
 go_wp2_with fail
 refine(tE b 225 _ F s ea _ ((aa H).1.frame (bd w _ _) (fun _ _ h=>h)) (aa H).2.1 (enters Tryz.func225 (by kernel_rfl) (by kernel_rfl) _) (fun wk sv hf hr=>qG b s.place s.place most ⟨w.heap.size,0,none⟩ ⟨w.heap.size+1,0,none⟩ ea s.nm sv s.all E wk (aa H).2.2.2 hlo hm (((aa H).2.2.1.aD (bd w _ _)).gP hf hlo) hr ((hf.cell (by simp <;> omega) (by show ¬ w.heap.size=b;omega)).trans (by simp)) ((hf.cell (by simp) (by show ¬ w.heap.size+1=b;omega)).trans (by simp)))).mono ?_
 rintro e w' ⟨rfl,F',hR,hc⟩
 have HR:=ae (And.intro hR hc)
 clear hR hc
 go_wp2_with fail
 go_ret
 exact⟨rfl,F',(aa HR).1,(aa HR).2.behind (bd w _ _)⟩
theorem pE (b:Nat) (most:Int) (F:Nat→Prop) (s:dS) (w:World) (h:R w b F s) (hn:s.f≠none) :
  Calls Tryz.prog 196 #[.pointer (some ⟨b,0,none⟩),.int .i64 most] w fun e w'=>e = .returned (.int .i64 0)∧∃ F',R w' b F' s∧Ch w w' F F':=by
 have hmf:=mf
 have H:=ae (And.intro h hn)
 clear h hn
 go_enter Tryz.func196,Tryz.ntmps196
 go_wp2_with fail
 refine(pJ b 225 _ F s _ ((aa H).1.frame (bd w _ _) (fun _ _ h=>h)) (aa H).2).mono ?_
 rintro e w' ⟨rfl,F',hR,hc⟩
 have HR:=ae (And.intro hR hc)
 clear hR hc
 go_wp2_with fail
 go_ret
 exact⟨rfl,F',(aa HR).1,(aa HR).2.behind (bd w _ _)⟩
theorem sV (b x:Nat) (most:Int) (F:Nat→Prop) (s:dS) (E:Nat→Addr) (w:World) (hm:most<9223372036854775808) (hg:Gl w E) (h:R w b F s) (hn:s.f=none) (hx:val ((s.all.drop s.place).take 4)=x) (hl:4+s.place≤s.all.length) (hv:(x:Int)≤most) (hxl:s.all.length<x+(s.place+4)) :
  Calls Tryz.prog 195 #[.pointer (some ⟨b,0,none⟩),.int .i64 most] w fun e w'=>e = .returned (.slice none 0 0)∧∃ F',R w' b F' { s with f:=some (s.nm,s.place,E 1) } ∧ Ch w w' F F':=by
 have hlt:=h.lt b h.fb
 have hlo:=h.lo b h.fb
 have hmf:=mf
 have H:=ae (And.intro h (And.intro hn (And.intro hg hx)))
 clear h hn hg hx
 go_enter Tryz.func195,Tryz.ntmps195
 go_wp2_with fail
 refine(j7 b 223 _ F s (E 1) _ ((aa H).1.frame (bd w _ _) (fun _ _ h=>h)) (aa H).2.1 (enters Tryz.func223 (by kernel_rfl) (by kernel_rfl) _) (fun wk sv hf hr=>rr b s.place s.place x most ⟨w.heap.size,0,none⟩ ⟨w.heap.size+1,0,none⟩ s.nm sv s.all E wk hlo hm (((aa H).2.2.1.aD (bd w _ _)).gP hf hlo) hr ((hf.cell (by simp <;> omega) (by show ¬ w.heap.size=b;omega)).trans (by simp)) ((hf.cell (by simp) (by show ¬ w.heap.size+1=b;omega)).trans (by simp)) (by show w.heap.size≠b;omega) (aa H).2.2.2 hl hv hxl)).mono ?_
 rintro e w' ⟨rfl,F',hR,hc⟩
 have HR:=ae (And.intro hR hc)
 clear hR hc
 go_wp2_with fail
 go_ret
 exact⟨rfl,F',(aa HR).1,(aa HR).2.behind (bd w _ _)⟩
theorem wY (b x:Nat) (most:Int) (F:Nat→Prop) (s:dS) (E:Nat→Addr) (w:World) (hm:most<9223372036854775808) (hg:Gl w E) (h:R w b F s) (hn:s.f=none) (hx:val ((s.all.drop s.place).take 4)=x) (hl:4+s.place≤s.all.length) (hv:(x:Int)≤most) (hxl:s.all.length<x+(s.place+4)) :
  Calls Tryz.prog 194 #[.pointer (some ⟨b,0,none⟩),.int .i64 most] w fun e w'=>e = .returned (.string ⟨#[]⟩)∧∃ F',R w' b F' { s with f:=some (s.nm,s.place,E 1) } ∧ Ch w w' F F':=by
 have hlt:=h.lt b h.fb
 have hlo:=h.lo b h.fb
 have hmf:=mf
 have H:=ae (And.intro h (And.intro hn (And.intro hg hx)))
 clear h hn hg hx
 go_enter Tryz.func194,Tryz.ntmps194
 go_wp2_with fail
 refine(iZ b 219 _ F s (E 1) _ ((aa H).1.frame (bd w _ _) (fun _ _ h=>h)) (aa H).2.1 (enters Tryz.func219 (by kernel_rfl) (by kernel_rfl) _) (fun wk sv hf hr=>tX b s.place s.place x most ⟨w.heap.size,0,none⟩ ⟨w.heap.size+1,0,none⟩ s.nm sv s.all E wk hlo hm (((aa H).2.2.1.aD (bd w _ _)).gP hf hlo) hr ((hf.cell (by simp <;> omega) (by show ¬ w.heap.size=b;omega)).trans (by simp)) ((hf.cell (by simp) (by show ¬ w.heap.size+1=b;omega)).trans (by simp)) (by show w.heap.size≠b;omega) (aa H).2.2.2 hl hv hxl)).mono ?_
 rintro e w' ⟨rfl,F',hR,hc⟩
 have HR:=ae (And.intro hR hc)
 clear hR hc
 go_wp2_with fail
 go_ret
 exact⟨rfl,F',(aa HR).1,(aa HR).2.behind (bd w _ _)⟩
end Go.Proofs.YtdcopmkgmbiikaaGreatDoor
