import Derived.Test.YtdcopmkgmbiikaaGreatDoorJAtt
import Derived.Deep.RegionWith
import Derived.RegionDies
namespace Go.Proofs.YtdcopmkgmbiikaaGreatDoor
open Go.RowKit
def err (ea:Addr):Value:=.iface 339 (.pointer (some ea))
def aJ (nm:ByteArray) (place:Nat) (ea:Addr):Obj:=.cells #[.string nm,.int .i64 place,.iface 339 (.pointer (some ea))] 83
theorem kq (b place:Nat) (nm:ByteArray) (ea:Addr) (w:World) (h0:w.cell? ⟨b,0,none⟩=some (.string nm)) :
  Calls Tryz.prog 120 #[.pointer (some ⟨b,0,none⟩),.int .i64 place,.iface 339 (.pointer (some ea))] w fun e w'=>e = .returned (.pointer (some ⟨w.heap.size,0,none⟩))∧w'=w.alloc (aJ nm place ea):=by
 go_enter Tryz.func120,Tryz.ntmps120
 go_wp2
 go_ret
 exact⟨rfl,rfl⟩
theorem ki (b place:Nat) (nm:ByteArray) (ea:Addr) (w:World) (h0:w.cell? ⟨b,0,none⟩=some (.string nm)) :
  Calls Tryz.prog 201 #[.pointer (some ⟨b,0,none⟩),.int .i64 place,.iface 339 (.pointer (some ea))] w fun e w'=>e = .panicked [aG ⟨w.heap.size,0,none⟩]∧w'=w.alloc (aJ nm place ea):=by
 go_enter Tryz.func201,Tryz.ntmps201
 go_wp2_with (go_at_call 120;refine(kq _ _ _ _ _ h0).mono ?_;rintro e w' ⟨rfl,rfl⟩)
 exact⟨rfl,rfl,rfl⟩
theorem eU (b:Nat) (why:Value) (w:World) :
  Calls Tryz.prog 184 #[.pointer (some ⟨b,0,none⟩),.bool false,why] w fun e w'=>e = .returned (.tuple #[])∧w'=w:=by
 go_enter Tryz.func184,Tryz.ntmps184
 go_wp2
 go_end0
 exact⟨rfl,rfl⟩
theorem bT (b len cap:Nat) (ao:Option Addr) (nm:ByteArray) (ea:Addr) (w:World) (h0:w.cell? ⟨b,0,none⟩=some (.string nm)) (h2:w.cell? ⟨b,2,none⟩=some (.slice ao len cap)) :
  Calls Tryz.prog 184 #[.pointer (some ⟨b,0,none⟩),.bool true,.iface 339 (.pointer (some ea))] w fun e w'=>e = .panicked [aG ⟨w.heap.size,0,none⟩]∧w'=(w.alloc (aJ nm len ea)).drew:=by
 go_enter Tryz.func184,Tryz.ntmps184
 go_wp2
 go_region_dies
 all_goals
  go_wp2_with fail
  refine(ki b len nm ea w.drew (by simpa using h0)).mono ?_
  rintro e w' ⟨rfl,rfl⟩
  exact⟨rfl,rfl,rfl⟩
structure sA (w w':World) (fa:Addr) (nm:ByteArray) (place:Nat) (ea:Addr):Prop where
 fr:Fr (fun _=>False) w w'
 yE:fa.off=0∧fa.spot=none∧w.heap.size≤fa.block
 c:w'.heap[fa.block]?=some (aJ nm place ea)
theorem j4 (w:World) (nm:ByteArray) (place:Nat) (ea:Addr):sA w (w.alloc (aJ nm place ea)).drew ⟨w.heap.size,0,none⟩ nm place ea:=
 ⟨((Fr.refl _ _).alloc _).drew,⟨rfl,rfl,Nat.le_refl _⟩,heap_alloc_new w _⟩
theorem jQ (b n:Nat) (most:Int) (sv:Value) (l:List Nat) (ea:Addr) (w:World) (hn:(n:Int)≤most) (hmax:n<4294967296)
  (he:w.cell? ⟨3,0,none⟩=some (.iface 339 (.pointer (some ea))))
  (h2:w.cell? ⟨b,2,none⟩=some sv) (f2:w.frozen? ⟨b,2,none⟩=false) (ho:w.ownsRow (b+1) 5 1 sv l.length (cellsOf l)) (hl:l.length+4≤140737488355328) :
  Calls Tryz.prog 208 #[.pointer (some ⟨b,0,none⟩),.int .i64 n,.int .i64 most] w fun e w'=>e = .returned (.tuple #[])∧∃ sv',ik w w' b 2 sv sv' (l++be 4 n):=by
 have HO:=ae ho
 clear ho
 go_enter Tryz.func208,Tryz.ntmps208
 go_wp2_with fail
 rw[show(decide (most<(n:Int)) || decide (4294967295<(n:Int)))=false from by simp;omega]
 refine(eU _ _ _).mono ?_
 rintro e w' ⟨rfl,rfl⟩
 go_wp2_with fail
 refine(fX b 4 n sv l _ (by decide) h2 f2 (aa HO) hl).mono ?_
 rintro e w' ⟨rfl,hA⟩
 go_wp2_with fail
 go_end0
 exact⟨rfl,hA⟩
theorem iH (b n:Nat) (most:Int) (len cap:Nat) (ao:Option Addr) (nm:ByteArray) (ea:Addr) (w:World) (hn:most<(n:Int)∨4294967295<n) (hm:n<9223372036854775808)
  (he:w.cell? ⟨3,0,none⟩=some (.iface 339 (.pointer (some ea))))
  (h0:w.cell? ⟨b,0,none⟩=some (.string nm)) (h2:w.cell? ⟨b,2,none⟩=some (.slice ao len cap)) :
  Calls Tryz.prog 208 #[.pointer (some ⟨b,0,none⟩),.int .i64 n,.int .i64 most] w fun e w'=>∃ fa,e = .panicked [aG fa]∧sA w w' fa nm len ea:=by
 by_cases hc:most<(n:Int)
 ·clear hn
  go_enter Tryz.func208,Tryz.ntmps208
  go_wp2_with fail
  refine(bT b len cap ao nm ea _ h0 h2).mono ?_
  rintro e w' ⟨rfl,rfl⟩
  exact⟨rfl,_,rfl,j4 w nm len ea⟩
 ·have hd:(4294967295:Int)<(n:Int):=by omega
  clear hn
  go_enter Tryz.func208,Tryz.ntmps208
  go_wp2_with fail
  refine(bT b len cap ao nm ea _ h0 h2).mono ?_
  rintro e w' ⟨rfl,rfl⟩
  exact⟨rfl,_,rfl,j4 w nm len ea⟩
end Go.Proofs.YtdcopmkgmbiikaaGreatDoor
