import Derived.Test.YtdcopmkgmbiikaaGreatDoorJDon
import Derived.Test.YtdcopmkgmbiikaaGreatDoorJWrk
set_option maxRecDepth 100000
namespace Go.Proofs.YtdcopmkgmbiikaaGreatDoor
open Go.RowKit
def Rg (w:World) (er:Addr):Prop:=w.cell? ⟨4,0,none⟩=some (.iface 339 (.pointer (some er)))
theorem Rg.fr {w w':World} {er:Addr} {S:Nat→Prop} (h:Rg w er) (hf:Fr S w w') (hS:∀ k,S k→9≤k):Rg w' er:=
 (hf.cell (ab h) (fun hs=>by have:=hS _ hs;simp at this)).trans h
theorem Rg.aR {w w':World} {er:Addr} (h:Rg w er) (hf:Fr (fun _=>False) w w'):Rg w' er:=h.fr hf (fun _ h=>h.elim)
theorem lG (b:Nat) (n:Int) (p0 p1 p2 er:Addr) (nm:ByteArray) (ao:Option Addr) (ln cap:Nat) (w:World) (hn:n<0) (he:Rg w er)
  (hp0:w.cell? p0=some (.pointer (some ⟨b,0,none⟩))) (hp1:w.cell? p1=some (.int .i64 n)) (h0:w.cell? ⟨b,0,none⟩=some (.string nm)) (h2:w.cell? ⟨b,2,none⟩=some (.slice ao ln cap)) :
  Calls Tryz.prog 210 #[.pointer (some p0),.pointer (some p1),.pointer (some p2)] w fun e w'=>∃ fa,e = .panicked [aG fa]∧sA w w' fa nm ln er:=by
 have hd:decide (n<0)=true:=by simp;omega
 unfold Rg at he
 go_enter Tryz.func210,Tryz.ntmps210
 go_wp2_with fail
 refine(bT b ln cap ao nm er _ h0 h2).mono ?_
 rintro e w1 ⟨rfl,rfl⟩
 exact⟨rfl,_,rfl,j4 w nm ln er⟩
theorem tQ (b n:Nat) (most:Int) (p0 p1 p2 ea er:Addr) (sv:Value) (l:List Nat) (w:World) (hn:(n:Int)≤most) (hmax:n<4294967296) (hr:Rg w er)
  (he:w.cell? ⟨3,0,none⟩=some (.iface 339 (.pointer (some ea))))
  (hp0:w.cell? p0=some (.pointer (some ⟨b,0,none⟩))) (hp1:w.cell? p1=some (.int .i64 n)) (hp2:w.cell? p2=some (.int .i64 most))
  (h2:w.cell? ⟨b,2,none⟩=some sv) (f2:w.frozen? ⟨b,2,none⟩=false) (ho:w.ownsRow (b+1) 5 1 sv l.length (cellsOf l)) (hl:l.length+4≤140737488355328) :
  Calls Tryz.prog 210 #[.pointer (some p0),.pointer (some p1),.pointer (some p2)] w fun e w'=>e = .returned (.tuple #[])∧∃ sv',ik w w' b 2 sv sv' (l++be 4 n):=by
 have HO:=ae ho
 clear ho
 unfold Rg at hr
 have hd:decide ((n:Int)<0)=false:=by simp
 go_enter Tryz.func210,Tryz.ntmps210
 go_wp2_with fail
 refine(eU _ _ _).mono ?_
 rintro e w1 ⟨rfl,rfl⟩
 go_wp2_with fail
 refine(jQ b n most sv l ea _ hn hmax he h2 f2 (aa HO) hl).mono ?_
 rintro e w1 ⟨rfl,hA⟩
 go_wp2_with fail
 go_end0
 exact⟨rfl,hA⟩
theorem kt (b n:Nat) (most:Int) (p0 p1 p2 ea er:Addr) (nm:ByteArray) (ao:Option Addr) (ln cap:Nat) (w:World) (hn:most<(n:Int)∨4294967295<n) (hm:n<9223372036854775808) (hr:Rg w er)
  (he:w.cell? ⟨3,0,none⟩=some (.iface 339 (.pointer (some ea))))
  (hp0:w.cell? p0=some (.pointer (some ⟨b,0,none⟩))) (hp1:w.cell? p1=some (.int .i64 n)) (hp2:w.cell? p2=some (.int .i64 most))
  (h0:w.cell? ⟨b,0,none⟩=some (.string nm)) (h2:w.cell? ⟨b,2,none⟩=some (.slice ao ln cap)) :
  Calls Tryz.prog 210 #[.pointer (some p0),.pointer (some p1),.pointer (some p2)] w fun e w'=>∃ fa,e = .panicked [aG fa]∧sA w w' fa nm ln ea:=by
 have HN:=ae hn
 clear hn
 unfold Rg at hr
 have hd:decide ((n:Int)<0)=false:=by simp
 go_enter Tryz.func210,Tryz.ntmps210
 go_wp2_with fail
 refine(eU _ _ _).mono ?_
 rintro e w1 ⟨rfl,rfl⟩
 go_wp2_with fail
 refine(iH b n most ln cap ao nm ea _ (aa HN) hm he h0 h2).mono ?_
 rintro e w1 ⟨fa,rfl,hB⟩
 exact⟨rfl,fa,rfl,hB⟩
def cL.kI (s:cL) (n most:Int) (ea er:Addr):cL:=if n<0 then s.fail er else if n≤most∧n<4294967296 then s.bP (be 4 n.toNat) else s.fail ea
theorem tu (b:Nat) (n most:Int) (F:Nat→Prop) (s:cL) (E:Nat→Addr) (er:Addr) (w:World) (hg:Gl w E) (hr:Rg w er) (h:W w b F s) (hx:n<9223372036854775808) (hl:s.l.length+4≤140737488355328) :
  Calls Tryz.prog 190 #[.pointer (some ⟨b,0,none⟩),.int .i64 n,.int .i64 most] w fun e w'=>e = .returned (.tuple #[])∧∃ F',W w' b F' (s.kI n most (E 2) er)∧Ch w w' F F':=by
 have hb:=h.lt b h.fb
 have hmf:=mf
 have HG:=ae (And.intro hg hr)
 clear hg hr
 by_cases hn:s.f=none
 ·have HN:=ae hn
  by_cases h0:n<0
  ·rw[cL.kI,if_pos h0,cL.fail,if_pos hn]
   clear hn
   go_enter Tryz.func190,Tryz.ntmps190
   go_wp2_with fail
   refine(gX (w:=w) s.l.length er h (aa HN) (aI _ _ _ _) (enters Tryz.func210 (by kernel_rfl) (by kernel_rfl) _) (fun wk hk hW=>by
    obtain⟨ao,cap,h2⟩:=hW.sv (aa HN)
    exact lG b n ⟨w.heap.size,0,none⟩ ⟨w.heap.size+1,0,none⟩ ⟨w.heap.size+1+1,0,none⟩ er s.nm ao s.l.length cap wk h0 ((aa HG).2.aR ((aI _ _ _ _).trans hk (fun _ _ h=>h))) ((hk.cell (by simp <;> omega) (fun h=>h)).trans (lf _ _ _ _ _)) ((hk.cell (by simp <;> omega) (fun h=>h)).trans (mm _ _ _ _ _)) hW.c0 h2)).mono ?_
   rintro e w' ⟨rfl,hq⟩
   go_wp2_with fail
   go_end0
   exact⟨rfl,hq⟩
  ·obtain⟨m,rfl⟩:=Int.eq_ofNat_of_zero_le (show 0≤n by omega)
   by_cases hc:(m:Int)≤most∧(m:Int)<4294967296
   ·rw[cL.kI,if_neg h0,if_pos hc,cL.bP,if_pos hn,Int.toNat_natCast]
    have HC:=ae hc
    clear hn hc
    go_enter Tryz.func190,Tryz.ntmps190
    go_wp2_with fail
    refine(iQ (w:=w) (be 4 m) h (aa HN) (aI _ _ _ _) (enters Tryz.func210 (by kernel_rfl) (by kernel_rfl) _) (fun wk sv hk h2 f2 ho hF=>tQ b m most ⟨w.heap.size,0,none⟩ ⟨w.heap.size+1,0,none⟩ ⟨w.heap.size+1+1,0,none⟩ (E 2) er sv s.l wk (aa HC).1 (by have:=(aa HC).2;omega) ((aa HG).2.aR ((aI _ _ _ _).trans hk (fun _ _ h=>h))) (((aa HG).1.aR ((aI _ _ _ _).trans hk (fun _ _ h=>h))).e2) ((hk.cell (by simp <;> omega) (fun h=>h)).trans (lf _ _ _ _ _)) ((hk.cell (by simp <;> omega) (fun h=>h)).trans (mm _ _ _ _ _)) ((hk.cell (by simp <;> omega) (fun h=>h)).trans (jW _ _ _ _ _)) h2 f2 ho hl)).mono ?_
    rintro e w' ⟨rfl,hq⟩
    go_wp2_with fail
    go_end0
    exact⟨rfl,hq⟩
   ·rw[cL.kI,if_neg h0,if_neg hc,cL.fail,if_pos hn]
    have HC:Hid (most<((m:Nat):Int)∨4294967295<m):=by simp only[Hid];omega
    clear hn hc
    go_enter Tryz.func190,Tryz.ntmps190
    go_wp2_with fail
    refine(gX (w:=w) s.l.length (E 2) h (aa HN) (aI _ _ _ _) (enters Tryz.func210 (by kernel_rfl) (by kernel_rfl) _) (fun wk hk hW=>by
     obtain⟨ao,cap,h2⟩:=hW.sv (aa HN)
     exact kt b m most ⟨w.heap.size,0,none⟩ ⟨w.heap.size+1,0,none⟩ ⟨w.heap.size+1+1,0,none⟩ (E 2) er s.nm ao s.l.length cap wk (aa HC) (by omega) ((aa HG).2.aR ((aI _ _ _ _).trans hk (fun _ _ h=>h))) (((aa HG).1.aR ((aI _ _ _ _).trans hk (fun _ _ h=>h))).e2) ((hk.cell (by simp <;> omega) (fun h=>h)).trans (lf _ _ _ _ _)) ((hk.cell (by simp <;> omega) (fun h=>h)).trans (mm _ _ _ _ _)) ((hk.cell (by simp <;> omega) (fun h=>h)).trans (jW _ _ _ _ _)) hW.c0 h2)).mono ?_
    rintro e w' ⟨rfl,hq⟩
    go_wp2_with fail
    go_end0
    exact⟨rfl,hq⟩
 ·have HN:=ae hn
  have e:s.kI n most (E 2) er=s:=by simp[cL.kI,cL.bP,cL.fail,hn]
  rw[e]
  clear hn e
  go_enter Tryz.func190,Tryz.ntmps190
  go_wp2_with fail
  refine(cc (w:=w) h (aa HN) (aI _ _ _ _)).mono ?_
  rintro e w' ⟨rfl,hq⟩
  go_wp2_with fail
  go_end0
  exact⟨rfl,hq⟩
end Go.Proofs.YtdcopmkgmbiikaaGreatDoor
