import Derived.Test.YtiknjghcjaaenaaGreatDoorKOah
import Derived.Shelf.Strconv.Clone
import Derived.Shelf.LaysM
namespace Go.Proofs.YtiknjghcjaaenaaGreatDoor
open Go.RowKit Go.Shelf
def laysC_ren : Go.Shelf.Ren := ⟨fun | 316 => 122 | n => n, fun | 9 => 9 | 3 => 3 | 4 => 4 | 37 => 165 | 0 => 0 | 127 => 166 | 5 => 5 | n => n, fun n => n⟩
theorem laysC : Go.Proofs.LaysM.n316 Tryz.prog laysC_ren where
 mixed := by kernel_rfl
 f316 := Tryz.func122.trans (congrArg some (by kernel_rfl))
 t0 := Tryz.underlying0
 a0 := Tryz.isAgg0
 z0 := Tryz.sizeOf0
 v0 := Tryz.zeroValue0
 t3 := Tryz.underlying3
 a3 := Tryz.isAgg3
 z3 := Tryz.sizeOf3
 v3 := Tryz.zeroValue3
 t4 := Tryz.underlying4
 a4 := Tryz.isAgg4
 z4 := Tryz.sizeOf4
 v4 := Tryz.zeroValue4
 t9 := Tryz.underlying9
 a9 := Tryz.isAgg9
 z9 := Tryz.sizeOf9
 v9 := Tryz.zeroValue9
 t37 := Tryz.underlying165
 a37 := Tryz.isAgg165
 z37 := Tryz.sizeOf165
 v37 := Tryz.zeroValue165
 t127 := Tryz.underlying166
 a127 := Tryz.isAgg166
 z127 := Tryz.sizeOf166
 v127 := Tryz.zeroValue166
 t5 := Tryz.underlying5
 a5 := Tryz.isAgg5
 z5 := Tryz.sizeOf5
 v5 := Tryz.zeroValue5
 i0 := by kernel_rfl
 i3 := by kernel_rfl
 i4 := by kernel_rfl
 i5 := by kernel_rfl
 i9 := by kernel_rfl
 i37 := by kernel_rfl
 i127 := by kernel_rfl
theorem Fr.of_below {w w' : World} (h : Below w.heap.size w w') : Fr (fun _ => False) w w' := ⟨h.os, h.tape, h.output, h.size, fun k hk _ => h.block k hk⟩
set_option maxRecDepth 100000 in
theorem sclone_any (s : ByteArray) (w : World) (hs : s.size ≤ 281474976710656) :
  Calls Tryz.prog 104 #[.string s] w fun e w' => e = .returned (.string s) ∧ Fr (fun _ => False) w w' := by
 have H := hide (Any.stringslite_Clone laysC s w hs)
 go_enter Tryz.func104, Tryz.ntmps104
 go_wp2_with (go_at_call 122; refine (unhide H).mono ?_; rintro e w' ⟨rfl, hb⟩)
 have HB := hide (Fr.of_below hb)
 clear hb
 go_wp2_with fail
 go_ret
 exact ⟨rfl, unhide HB⟩
theorem set_same {w : World} {b i : Nat} {cs : Array Value} {t : TypeId} {v : Value} (h : w.heap[b]? = some (.cells cs t)) (hv : cs[i]? = some v) : (w.setCell ⟨b, i, none⟩ v).heap[b]? = some (.cells cs t) := by
 have e : cs.setIfInBounds i v = cs := by
  apply Array.ext_getElem?
  intro j
  rw [Array.getElem?_setIfInBounds]
  by_cases hj : i = j
  ·subst hj
   rw [if_pos rfl, hv]
   have := (Array.getElem?_eq_some_iff.1 hv).1
   simp [this]
  ·rw [if_neg hj]
 simp only [World.setCell, Array.getElem?_modify, if_true, h, Option.map_some]
 simp [e]
structure FB (w W : World) (b : Nat) (f : F5) : Prop where
 blk : W.heap[b]? = some (.cells f.cs 55)
 fr : Fr (fun _ => False) w W
 nw : w.heap.size ≤ b
theorem FB.step {w W W' : World} {b : Nat} {f : F5} (h : FB w W b f) (hf : Fr (fun _ => False) W W') : FB w W' b f :=
 ⟨(hf.block b (lt_of_block h.blk) (fun h => h)).trans h.blk, h.fr.trans hf (fun _ _ h => h), h.nw⟩
theorem FB.cells {w W : World} {b : Nat} {f : F5} (h : FB w W b f) : W.cell? ⟨b, 0, none⟩ = some (.string f.n) ∧ W.cell? ⟨b, 1, none⟩ = some (.int .u8 (f.k : Nat)) ∧ W.cell? ⟨b, 2, none⟩ = some (.string f.t) ∧ W.cell? ⟨b, 3, none⟩ = some (.float .f32 f.v) ∧ W.cell? ⟨b, 4, none⟩ = some (.int .u8 (f.u : Nat)) ∧ ∀ i, W.frozen? ⟨b, i, none⟩ = false := by
 refine ⟨?_, ?_, ?_, ?_, ?_, fun i => ?_⟩ <;> simp [World.cell?, World.frozen?, h.blk, F5.cs]
theorem FB.set0 {w W : World} {b : Nat} {f : F5} (h : FB w W b f) : FB w (W.setCell ⟨b, 0, none⟩ (.string f.n)) b f :=
 ⟨set_same h.blk rfl, h.fr.setCell (.inr h.nw) _, h.nw⟩
theorem FB.set2 {w W : World} {b : Nat} {f : F5} (h : FB w W b f) : FB w (W.setCell ⟨b, 2, none⟩ (.string f.t)) b f :=
 ⟨set_same h.blk rfl, h.fr.setCell (.inr h.nw) _, h.nw⟩
end Go.Proofs.YtiknjghcjaaenaaGreatDoor
