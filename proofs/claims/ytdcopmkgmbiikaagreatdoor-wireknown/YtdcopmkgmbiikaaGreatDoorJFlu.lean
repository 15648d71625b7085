import Derived.Test.YtdcopmkgmbiikaaGreatDoorJFlt
set_option maxRecDepth 100000
namespace Go.Proofs.YtdcopmkgmbiikaaGreatDoor
open Go.RowKit
def cL.lS (s:cL) (x:Nat) (er:Addr):cL:=if bM x=true then s.bP (be 4 x) else s.fail er
theorem xl (b x:Nat) (F:Nat→Prop) (s:cL) (er:Addr) (w:World) (hr:Rg w er) (h:W w b F s) (hx:x<4294967296) (hl:s.l.length+4≤140737488355328) :
  Calls Tryz.prog 187 #[.pointer (some ⟨b,0,none⟩),.float .f32 x] w fun e w'=>e = .returned (.tuple #[])∧∃ F',W w' b F' (s.lS x er)∧Ch w w' F F':=by
 have hb:=h.lt b h.fb
 have hmf:=mf
 have HG:=ae hr
 clear hr
 by_cases hn:s.f=none
 ·have HN:=ae hn
  by_cases hq:bM x=true
  ·rw[cL.lS,if_pos hq,cL.bP,if_pos hn]
   clear hn
   go_enter Tryz.func187,Tryz.ntmps187
   go_wp2_with fail
   refine(iQ (w:=w) (be 4 x) h (aa HN) (aY _ _ _) (enters Tryz.func205 (by kernel_rfl) (by kernel_rfl) _) (fun wk sv hk h2 f2 ho hF=>yt b x ⟨w.heap.size+1,0,none⟩ ⟨w.heap.size,0,none⟩ er sv s.l wk hx hq ((aa HG).aR ((aY _ _ _).trans hk (fun _ _ h=>h))) ((hk.cell (by simp) (fun h=>h)).trans (by simp)) ((hk.cell (by simp <;> omega) (fun h=>h)).trans (by simp)) h2 f2 ho hl)).mono ?_
   rintro e w' ⟨rfl,hq⟩
   go_wp2_with fail
   go_end0
   exact⟨rfl,hq⟩
  ·have hq':bM x=false:=by simpa using hq
   rw[cL.lS,if_neg hq,cL.fail,if_pos hn]
   clear hn hq
   go_enter Tryz.func187,Tryz.ntmps187
   go_wp2_with fail
   refine(gX (w:=w) s.l.length er h (aa HN) (aY _ _ _) (enters Tryz.func205 (by kernel_rfl) (by kernel_rfl) _) (fun wk hk hW=>by
    obtain⟨ao,cap,h2⟩:=hW.sv (aa HN)
    exact oH b x ⟨w.heap.size+1,0,none⟩ ⟨w.heap.size,0,none⟩ er s.nm ao s.l.length cap wk hx hq' ((aa HG).aR ((aY _ _ _).trans hk (fun _ _ h=>h))) ((hk.cell (by simp) (fun h=>h)).trans (by simp)) ((hk.cell (by simp <;> omega) (fun h=>h)).trans (by simp)) hW.c0 h2)).mono ?_
   rintro e w' ⟨rfl,hq⟩
   go_wp2_with fail
   go_end0
   exact⟨rfl,hq⟩
 ·have HN:=ae hn
  have e:s.lS x er=s:=by simp[cL.lS,cL.bP,cL.fail,hn]
  rw[e]
  clear hn e
  go_enter Tryz.func187,Tryz.ntmps187
  go_wp2_with fail
  refine(cc (w:=w) h (aa HN) (aY _ _ _)).mono ?_
  rintro e w' ⟨rfl,hq⟩
  go_wp2_with fail
  go_end0
  exact⟨rfl,hq⟩
end Go.Proofs.YtdcopmkgmbiikaaGreatDoor
