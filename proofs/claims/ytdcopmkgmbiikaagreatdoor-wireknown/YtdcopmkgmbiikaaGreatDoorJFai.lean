import Derived.Test.YtdcopmkgmbiikaaGreatDoorJTld
set_option maxRecDepth 100000
namespace Go.Proofs.YtdcopmkgmbiikaaGreatDoor
open Go.RowKit
theorem mY (b:Nat) (p0 p1:Addr) (sv:Value) (l:List Nat) (w:World)
  (hp0:w.cell? p0=some (.pointer (some ⟨b,0,none⟩))) (hp1:w.cell? p1=some .nilIface) (h2:w.cell? ⟨b,2,none⟩=some sv) (ho:w.ownsRow (b+1) 5 1 sv l.length (cellsOf l)) :
  Calls Tryz.prog 183 #[.pointer (some p0),.pointer (some p1)] w fun e w'=>e = .returned (.tuple #[])∧∃ sv',ik w w' b 2 sv sv' (l++[]):=by
 have HO:=ae ho
 clear ho
 go_enter Tryz.func183,Tryz.ntmps183
 go_wp2_with fail
 go_quiet ((go_at_call 184;exact Calls.quiet_of_same (eU _ _ _)))
 go_wp2_with fail
 go_end0
 exact⟨rfl,sv,ik.gK (n:=nq) (by rw[List.append_nil];exact ik.refl (by simpa using h2) (aa HO))⟩
theorem vW (b:Nat) (p0 p1 ea:Addr) (nm:ByteArray) (ao:Option Addr) (ln cap:Nat) (w:World)
  (hp0:w.cell? p0=some (.pointer (some ⟨b,0,none⟩))) (hp1:w.cell? p1=some (.iface 339 (.pointer (some ea)))) (h0:w.cell? ⟨b,0,none⟩=some (.string nm)) (h2:w.cell? ⟨b,2,none⟩=some (.slice ao ln cap)) :
  Calls Tryz.prog 183 #[.pointer (some p0),.pointer (some p1)] w fun e w'=>∃ fa,e = .panicked [aG fa]∧sA w w' fa nm ln ea:=by
 go_enter Tryz.func183,Tryz.ntmps183
 go_wp2_with fail
 go_region_dies
 all_goals
  go_wp2_with fail
  refine(bT b ln cap ao nm ea w.drew (by simpa using h0) (by simpa using h2)).mono ?_
  rintro e w1 ⟨rfl,rfl⟩
  exact⟨rfl,_,rfl,bl w nm ln ea⟩
def ba (E:Nat→Addr) (n:Nat):Value:=if n=0 then .nilIface else .iface 339 (.pointer (some (E n)))
def cL.ah (s:cL) (E:Nat→Addr) (n:Nat):cL:=if n=0 then s else s.fail (E n)
theorem vu (b n:Nat) (F:Nat→Prop) (s:cL) (E:Nat→Addr) (w:World) (h:W w b F s) :
  Calls Tryz.prog 167 #[.pointer (some ⟨b,0,none⟩),ba E n] w fun e w'=>e = .returned (.tuple #[])∧∃ F',W w' b F' (s.ah E n)∧Ch w w' F F':=by
 have hb:=h.lt b h.fb
 have hmf:=mf
 by_cases hn:s.f=none
 ·have HN:=ae hn
  by_cases h0:n=0
  ·subst h0
   have e1:s.ah E 0 = { s with l:=s.l++[] } := by simp[cL.ah]
   rw[ba,if_pos rfl,e1]
   clear hn e1
   go_enter Tryz.func167,Tryz.ntmps167
   go_wp2_with fail
   refine(iQ (w:=w) [] h (aa HN) (aY _ _ _) (enters Tryz.func183 (by kernel_rfl) (by kernel_rfl) _) (fun wk sv hk h2 f2 ho hF=>mY b ⟨w.heap.size,0,none⟩ ⟨w.heap.size+1,0,none⟩ sv s.l wk ((hk.cell (by simp <;> omega) (fun h=>h)).trans (by simp)) ((hk.cell (by simp) (fun h=>h)).trans (by simp)) h2 ho)).mono ?_
   rintro e w' ⟨rfl,hq⟩
   go_wp2_with fail
   go_end0
   exact⟨rfl,hq⟩
  ·rw[ba,if_neg h0,cL.ah,if_neg h0,cL.fail,if_pos hn]
   clear hn
   go_enter Tryz.func167,Tryz.ntmps167
   go_wp2_with fail
   refine(gX (w:=w) s.l.length (E n) h (aa HN) (aY _ _ _) (enters Tryz.func183 (by kernel_rfl) (by kernel_rfl) _) (fun wk hk hW=>by
    obtain⟨ao,cap,h2⟩:=hW.sv (aa HN)
    exact vW b ⟨w.heap.size,0,none⟩ ⟨w.heap.size+1,0,none⟩ (E n) s.nm ao s.l.length cap wk ((hk.cell (by simp <;> omega) (fun h=>h)).trans (by simp)) ((hk.cell (by simp) (fun h=>h)).trans (by simp)) hW.c0 h2)).mono ?_
   rintro e w' ⟨rfl,hq⟩
   go_wp2_with fail
   go_end0
   exact⟨rfl,hq⟩
 ·have HN:=ae hn
  have e:s.ah E n=s:=by simp[cL.ah,cL.fail,hn]
  rw[e]
  clear hn e
  have hv:ba E n = .nilIface∨ba E n = .iface 339 (.pointer (some (E n))):=by unfold ba;split <;> simp
  rcases hv with e|e
  all_goals
   rw[e]
   clear e
   go_enter Tryz.func167,Tryz.ntmps167
   go_wp2_with fail
   refine(cc (w:=w) h (aa HN) (aY _ _ _)).mono ?_
   rintro e w' ⟨rfl,hq⟩
   go_wp2_with fail
   go_end0
   exact⟨rfl,hq⟩
end Go.Proofs.YtdcopmkgmbiikaaGreatDoor
