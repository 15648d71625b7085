import Derived.Test.YtdcopmkgmbiikaaGreatDoorJWra
set_option maxRecDepth 100000
namespace Go.Proofs.YtdcopmkgmbiikaaGreatDoor
open Go.RowKit
theorem iI (E:Nat→Addr) (n:Nat):ba E n = .nilIface∨∃ a,ba E n = .iface 339 (.pointer (some a)):=by
 unfold ba;split
 ·exact .inl rfl
 ·exact .inr ⟨_,rfl⟩
theorem cell_of {w w':World} {p:Addr} {v:Value} (h:w.cell? p=some v) (hb:w'.heap[p.block]?=w.heap[p.block]?):w'.cell? p=some v:=(World.cell?_of_block (w:=w) hb).trans h
def bC (lo hi n:Nat) (v:Nat):Nat:=if v<lo∨hi<v then n else 0
def kT (lo hi:Int) (n:Nat) (v:Int):Nat:=if v<lo∨hi<v then n else 0
def cu (lo hi:Int) (v:Nat):Nat:=if hi<(v:Int) then 2 else if (v:Int)<lo then 4 else 0
def fh (w:World) (K:Nat→Prop):Prop:=∀ k,K k→w.heap.size≤k∨k<9
theorem mP (lo hi:Nat) (n:Nat) (v:Nat) (E:Nat→Addr) (p0 p1 p2:Addr) (w:World) (h0:w.cell? p0=some (.int .u8 (lo:Nat))) (h1:w.cell? p1=some (.int .u8 (hi:Nat))) (h2:w.cell? p2=some (ba E n)) :
  Calls Tryz.prog 149 #[.int .u8 (v:Nat),.pointer (some p0),.pointer (some p1),.pointer (some p2)] w fun e w'=>e = .returned (ba E (bC lo hi n v))∧Fr (fun _=>False) w w':=by
 go_enter Tryz.func149,Tryz.ntmps149
 go_wp2_with fail
 all_goals
  go_ret
  refine⟨?_,Fr.refl _ _⟩
  unfold bC
  first
   | (rw[if_pos (by omega)];rfl)
   | (rw[if_neg (by omega)];rfl)
theorem dA (lo hi:Nat) (n:Nat) (E:Nat→Addr) (w:World) (hn:n≤7) :
  Calls Tryz.prog 128 #[.int .u8 (lo:Nat),.int .u8 (hi:Nat),ba E n] w fun e w'=>∃ fv,e = .returned fv∧∃ K,iR dP w' K fv E (bC lo hi n)∧Fr (fun _=>False) w w'∧fh w K:=by
 have hmf:=mf
 have fin:∀ (w':World) (T0 T1 T2:TypeId),w'=((w.alloc (.cells #[.int .u8 (lo:Nat)] T0)).alloc (.cells #[.int .u8 (hi:Nat)] T1)).alloc (.cells #[ba E n] T2)→iR dP w' (fun k=>w.heap.size≤k∧k<w.heap.size+3) (.func (.func 149) #[] #[.pointer (some ⟨w.heap.size,0,none⟩),.pointer (some ⟨w.heap.size+1,0,none⟩),.pointer (some ⟨w.heap.size+1+1,0,none⟩)]) E (bC lo hi n)∧Fr (fun _=>False) w w'∧fh w (fun k=>w.heap.size≤k∧k<w.heap.size+3):=by
  intro w' T0 T1 T2 hw
  have a0:w'.cell? ⟨w.heap.size,0,none⟩=some (.int .u8 (lo:Nat)):=by rw[hw];exact lf _ _ _ _ _
  have a1:w'.cell? ⟨w.heap.size+1,0,none⟩=some (.int .u8 (hi:Nat)):=by rw[hw];exact mm _ _ _ _ _
  have a2:w'.cell? ⟨w.heap.size+1+1,0,none⟩=some (ba E n):=by rw[hw];exact jW _ _ _ _ _
  refine⟨⟨fun k hk=>by rw[hw];simp;omega,fun v=>by unfold bC;split <;> omega,_,_,rfl,fun _ W=>enters Tryz.func149 rfl rfl _ W,?_⟩,by rw[hw];exact aI _ _ _ _,fun k hk=>.inl hk.1⟩
  rintro w2 x v hk ⟨rfl,_⟩
  exact mP lo hi n v E _ _ _ w2 (cell_of a0 (hk _ ⟨Nat.le_refl _,by simp⟩)) (cell_of a1 (hk _ ⟨by simp,by simp⟩)) (cell_of a2 (hk _ ⟨by simp;omega,by simp⟩))
 rcases iI E n with e|⟨a,e⟩
 all_goals
  rw[e] at fin ⊢
  go_enter Tryz.func128,Tryz.ntmps128
  go_wp2_with fail
  go_ret
  obtain⟨h1,h2,h3⟩:=fin _ _ _ _ rfl
  exact⟨_,rfl,_,h1,h2,h3⟩
theorem lp (lo hi:Nat) (n:Nat) (v:Nat) (E:Nat→Addr) (p0 p1 p2:Addr) (w:World) (h0:w.cell? p0=some (.int .u32 (lo:Nat))) (h1:w.cell? p1=some (.int .u32 (hi:Nat))) (h2:w.cell? p2=some (ba E n)) :
  Calls Tryz.prog 151 #[.int .u32 (v:Nat),.pointer (some p0),.pointer (some p1),.pointer (some p2)] w fun e w'=>e = .returned (ba E (bC lo hi n v))∧Fr (fun _=>False) w w':=by
 go_enter Tryz.func151,Tryz.ntmps151
 go_wp2_with fail
 all_goals
  go_ret
  refine⟨?_,Fr.refl _ _⟩
  unfold bC
  first
   | (rw[if_pos (by omega)];rfl)
   | (rw[if_neg (by omega)];rfl)
theorem fY (lo hi:Nat) (n:Nat) (E:Nat→Addr) (w:World) (hn:n≤7) :
  Calls Tryz.prog 132 #[.int .u32 (lo:Nat),.int .u32 (hi:Nat),ba E n] w fun e w'=>∃ fv,e = .returned fv∧∃ K,iR dR w' K fv E (bC lo hi n)∧Fr (fun _=>False) w w'∧fh w K:=by
 have hmf:=mf
 have fin:∀ (w':World) (T0 T1 T2:TypeId),w'=((w.alloc (.cells #[.int .u32 (lo:Nat)] T0)).alloc (.cells #[.int .u32 (hi:Nat)] T1)).alloc (.cells #[ba E n] T2)→iR dR w' (fun k=>w.heap.size≤k∧k<w.heap.size+3) (.func (.func 151) #[] #[.pointer (some ⟨w.heap.size,0,none⟩),.pointer (some ⟨w.heap.size+1,0,none⟩),.pointer (some ⟨w.heap.size+1+1,0,none⟩)]) E (bC lo hi n)∧Fr (fun _=>False) w w'∧fh w (fun k=>w.heap.size≤k∧k<w.heap.size+3):=by
  intro w' T0 T1 T2 hw
  have a0:w'.cell? ⟨w.heap.size,0,none⟩=some (.int .u32 (lo:Nat)):=by rw[hw];exact lf _ _ _ _ _
  have a1:w'.cell? ⟨w.heap.size+1,0,none⟩=some (.int .u32 (hi:Nat)):=by rw[hw];exact mm _ _ _ _ _
  have a2:w'.cell? ⟨w.heap.size+1+1,0,none⟩=some (ba E n):=by rw[hw];exact jW _ _ _ _ _
  refine⟨⟨fun k hk=>by rw[hw];simp;omega,fun v=>by unfold bC;split <;> omega,_,_,rfl,fun _ W=>enters Tryz.func151 rfl rfl _ W,?_⟩,by rw[hw];exact aI _ _ _ _,fun k hk=>.inl hk.1⟩
  rintro w2 x v hk ⟨rfl,_⟩
  exact lp lo hi n v E _ _ _ w2 (cell_of a0 (hk _ ⟨Nat.le_refl _,by simp⟩)) (cell_of a1 (hk _ ⟨by simp,by simp⟩)) (cell_of a2 (hk _ ⟨by simp;omega,by simp⟩))
 rcases iI E n with e|⟨a,e⟩
 all_goals
  rw[e] at fin ⊢
  go_enter Tryz.func132,Tryz.ntmps132
  go_wp2_with fail
  go_ret
  obtain⟨h1,h2,h3⟩:=fin _ _ _ _ rfl
  exact⟨_,rfl,_,h1,h2,h3⟩
theorem mi (lo hi:Int) (n:Nat) (v:Int) (E:Nat→Addr) (p0 p1 p2:Addr) (w:World) (h0:w.cell? p0=some (.int .i64 lo)) (h1:w.cell? p1=some (.int .i64 hi)) (h2:w.cell? p2=some (ba E n)) :
  Calls Tryz.prog 156 #[.int .i64 v,.pointer (some p0),.pointer (some p1),.pointer (some p2)] w fun e w'=>e = .returned (ba E (kT lo hi n v))∧Fr (fun _=>False) w w':=by
 go_enter Tryz.func156,Tryz.ntmps156
 go_wp2_with fail
 all_goals
  go_ret
  refine⟨?_,Fr.refl _ _⟩
  unfold kT
  first
   | (rw[if_pos (by omega)];rfl)
   | (rw[if_neg (by omega)];rfl)
theorem dx (lo hi:Int) (n:Nat) (E:Nat→Addr) (w:World) (hn:n≤7) :
  Calls Tryz.prog 134 #[.int .i64 lo,.int .i64 hi,ba E n] w fun e w'=>∃ fv,e = .returned fv∧∃ K,iR dm w' K fv E (kT lo hi n)∧Fr (fun _=>False) w w'∧fh w K:=by
 have hmf:=mf
 have fin:∀ (w':World) (T0 T1 T2:TypeId),w'=((w.alloc (.cells #[.int .i64 lo] T0)).alloc (.cells #[.int .i64 hi] T1)).alloc (.cells #[ba E n] T2)→iR dm w' (fun k=>w.heap.size≤k∧k<w.heap.size+3) (.func (.func 156) #[] #[.pointer (some ⟨w.heap.size,0,none⟩),.pointer (some ⟨w.heap.size+1,0,none⟩),.pointer (some ⟨w.heap.size+1+1,0,none⟩)]) E (kT lo hi n)∧Fr (fun _=>False) w w'∧fh w (fun k=>w.heap.size≤k∧k<w.heap.size+3):=by
  intro w' T0 T1 T2 hw
  have a0:w'.cell? ⟨w.heap.size,0,none⟩=some (.int .i64 lo):=by rw[hw];exact lf _ _ _ _ _
  have a1:w'.cell? ⟨w.heap.size+1,0,none⟩=some (.int .i64 hi):=by rw[hw];exact mm _ _ _ _ _
  have a2:w'.cell? ⟨w.heap.size+1+1,0,none⟩=some (ba E n):=by rw[hw];exact jW _ _ _ _ _
  refine⟨⟨fun k hk=>by rw[hw];simp;omega,fun v=>by unfold kT;split <;> omega,_,_,rfl,fun _ W=>enters Tryz.func156 rfl rfl _ W,?_⟩,by rw[hw];exact aI _ _ _ _,fun k hk=>.inl hk.1⟩
  rintro w2 x v hk rfl
  exact mi lo hi n v E _ _ _ w2 (cell_of a0 (hk _ ⟨Nat.le_refl _,by simp⟩)) (cell_of a1 (hk _ ⟨by simp,by simp⟩)) (cell_of a2 (hk _ ⟨by simp;omega,by simp⟩))
 rcases iI E n with e|⟨a,e⟩
 all_goals
  rw[e] at fin ⊢
  go_enter Tryz.func134,Tryz.ntmps134
  go_wp2_with fail
  go_ret
  obtain⟨h1,h2,h3⟩:=fin _ _ _ _ rfl
  exact⟨_,rfl,_,h1,h2,h3⟩
theorem G6.k2 {w:World} {E:Nat→Addr} (h:G6 w E):w.cell? ⟨3,0,none⟩=some (ba E 2):=h.gl.e2
theorem G6.k4 {w:World} {E:Nat→Addr} (h:G6 w E):w.cell? ⟨4,0,none⟩=some (ba E 4):=h.e4
theorem G6.k5 {w:World} {E:Nat→Addr} (h:G6 w E):w.cell? ⟨5,0,none⟩=some (ba E 5):=h.e5
theorem G6.k6 {w:World} {E:Nat→Addr} (h:G6 w E):w.cell? ⟨6,0,none⟩=some (ba E 6):=h.e6
theorem nh (lo hi:Int) (v:ByteArray)  (E:Nat→Addr) (p0 p1:Addr) (w:World) (h0:w.cell? p0=some (.int .i64 hi)) (h1:w.cell? p1=some (.int .i64 lo)) (g2:w.cell? ⟨3,0,none⟩=some (ba E 2)) (g4:w.cell? ⟨4,0,none⟩=some (ba E 4)) :
  Calls Tryz.prog 178 #[.string v,.pointer (some p0),.pointer (some p1)] w fun e w'=>e = .returned (ba E (cu lo hi v.size))∧Fr (fun _=>False) w w':=by
 go_enter Tryz.func178,Tryz.ntmps178
 go_wp2_with fail
 all_goals
  go_ret
  refine⟨?_,Fr.refl _ _⟩
  unfold cu
  first
   | (rw[if_pos (by omega)];rfl)
   | (rw[if_neg (by omega),if_pos (by omega)];rfl)
   | (rw[if_neg (by omega),if_neg (by omega)];rfl)
theorem vH (lo hi:Int) (E:Nat→Addr) (w:World) (hg:G6 w E) :
  Calls Tryz.prog 158 #[.int .i64 lo,.int .i64 hi] w fun e w'=>∃ fv,e = .returned fv∧∃ K,iR dD w' K fv E (fun v=>cu lo hi v.size)∧Fr (fun _=>False) w w'∧fh w K:=by
 have hmf:=mf
 have k2:=hg.k2
 have k4:=hg.k4
 have hl2:=ab k2
 have hl4:=ab k4
 clear hg
 go_enter Tryz.func158,Tryz.ntmps158
 go_wp2_with fail
 go_ret
 refine⟨_,rfl,fun k=>(w.heap.size≤k∧k<w.heap.size+2)∨k=3∨k=4,⟨fun k hk=>?_,fun v=>by simp only[cu];split <;> (try split) <;> omega,_,_,rfl,fun _ W=>enters Tryz.func178 rfl rfl _ W,?_⟩,aY _ _ _,fun k hk=>?_⟩
 ·simp
  omega
 ·rintro w2 x v hk rfl
  exact nh lo hi v  E _ _ w2 (cell_of (by simp) (hk _ (.inl ⟨by simp,by simp⟩))) (cell_of (by simp) (hk _ (.inl ⟨Nat.le_refl _,by simp⟩))) (cell_of ((aY w _ _).cell hl2 (fun h=>h) |>.trans k2) (hk _ (.inr (.inl rfl)))) (cell_of ((aY w _ _).cell hl4 (fun h=>h) |>.trans k4) (hk _ (.inr (.inr rfl))))
 ·rcases hk with hk|rfl|rfl
  ·exact .inl hk.1
  ·exact .inr (by decide)
  ·exact .inr (by decide)
theorem mR (lo hi:Int) (v:(List Nat)) (xo:Option Addr) (xc:Nat) (E:Nat→Addr) (p0 p1:Addr) (w:World) (h0:w.cell? p0=some (.int .i64 hi)) (h1:w.cell? p1=some (.int .i64 lo)) (g2:w.cell? ⟨3,0,none⟩=some (ba E 2)) (g4:w.cell? ⟨4,0,none⟩=some (ba E 4)) :
  Calls Tryz.prog 181 #[.slice xo v.length xc,.pointer (some p0),.pointer (some p1)] w fun e w'=>e = .returned (ba E (cu lo hi v.length))∧Fr (fun _=>False) w w':=by
 go_enter Tryz.func181,Tryz.ntmps181
 go_wp2_with fail
 all_goals
  go_ret
  refine⟨?_,Fr.refl _ _⟩
  unfold cu
  first
   | (rw[if_pos (by omega)];rfl)
   | (rw[if_neg (by omega),if_pos (by omega)];rfl)
   | (rw[if_neg (by omega),if_neg (by omega)];rfl)
theorem uD (lo hi:Int) (E:Nat→Addr) (w:World) (hg:G6 w E) :
  Calls Tryz.prog 161 #[.int .i64 lo,.int .i64 hi] w fun e w'=>∃ fv,e = .returned fv∧∃ K,iR eD w' K fv E (fun v=>cu lo hi v.length)∧Fr (fun _=>False) w w'∧fh w K:=by
 have hmf:=mf
 have k2:=hg.k2
 have k4:=hg.k4
 have hl2:=ab k2
 have hl4:=ab k4
 clear hg
 go_enter Tryz.func161,Tryz.ntmps161
 go_wp2_with fail
 go_ret
 refine⟨_,rfl,fun k=>(w.heap.size≤k∧k<w.heap.size+2)∨k=3∨k=4,⟨fun k hk=>?_,fun v=>by simp only[cu];split <;> (try split) <;> omega,_,_,rfl,fun _ W=>enters Tryz.func181 rfl rfl _ W,?_⟩,aY _ _ _,fun k hk=>?_⟩
 ·simp
  omega
 ·rintro w2 x v hk hs
  obtain⟨xo,xc,rfl⟩:=hs.form
  exact mR lo hi v xo xc E _ _ w2 (cell_of (by simp) (hk _ (.inl ⟨by simp,by simp⟩))) (cell_of (by simp) (hk _ (.inl ⟨Nat.le_refl _,by simp⟩))) (cell_of ((aY w _ _).cell hl2 (fun h=>h) |>.trans k2) (hk _ (.inr (.inl rfl)))) (cell_of ((aY w _ _).cell hl4 (fun h=>h) |>.trans k4) (hk _ (.inr (.inr rfl))))
 ·rcases hk with hk|rfl|rfl
  ·exact .inl hk.1
  ·exact .inr (by decide)
  ·exact .inr (by decide)
end Go.Proofs.YtdcopmkgmbiikaaGreatDoor
