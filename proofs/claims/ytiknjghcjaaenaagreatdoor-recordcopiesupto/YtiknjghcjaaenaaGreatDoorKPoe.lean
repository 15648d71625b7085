import Derived.Test.YtiknjghcjaaenaaGreatDoorKPod
namespace Go.Proofs.YtiknjghcjaaenaaGreatDoor
open Go.RowKit
def QM.near (q : QM) : Bool := decide (q.p.w = q.wd)
def QM.own (q : QM) : Bool := decide (q.p.a = q.ow)
def QM.role (q : QM) (l : List Nat) : Bool := decide (q.p.r ∈ l)
structure QE (w : World) (q : QM) (S : List P3) (G : List Nat) (F : List F5) : Prop where
 s : Stf w q.sv S
 g : Us w q.gv G
 f : Fds w q.fv F
 sl : S.length ≤ 140737488355328
 gl : G.length ≤ 140737488355328
 fl : F.length ≤ 140737488355328
theorem QE.fr {w w' : World} {q : QM} {S : List P3} {G : List Nat} {F : List F5} (h : QE w q S G F) (hf : Fr (fun _ => False) w w') : QE w' q S G F := ⟨h.s.fr hf, h.g.fr hf, h.f.fr hf, h.sl, h.gl, h.fl⟩
def QM.cs (q : QM) : Array Value := #[q.sv, .int .u32 (q.p.a : Nat), .int .u32 (q.p.r : Nat), .int .u32 (q.p.w : Nat), .int .u32 (q.wd : Nat), .int .u32 (q.ow : Nat), .bool q.sl, q.gv, q.fv, .string q.rs]
structure QB (w W : World) (b : Nat) (q : QM) : Prop where
 fr : Fr (fun _ => False) w W
 lt : b < W.heap.size
 bx : W.heap[b]? = some (.cells q.cs 138)
theorem QB.step {w W W' : World} {b : Nat} {q : QM} (h : QB w W b q) (hf : Fr (fun _ => False) W W') : QB w W' b q :=
 ⟨h.fr.trans hf (fun _ _ h => h), Nat.lt_of_lt_of_le h.lt hf.size, (hf.block b h.lt (fun h => h)).trans h.bx⟩
theorem QB.cells {w W : World} {b : Nat} {q : QM} (h : QB w W b q) : W.cell? ⟨b, 0, none⟩ = some q.sv ∧ W.cell? ⟨b, 1, none⟩ = some (.int .u32 (q.p.a : Nat)) ∧ W.cell? ⟨b, 2, none⟩ = some (.int .u32 (q.p.r : Nat)) ∧ W.cell? ⟨b, 3, none⟩ = some (.int .u32 (q.p.w : Nat)) ∧ W.cell? ⟨b, 4, none⟩ = some (.int .u32 (q.wd : Nat)) ∧ W.cell? ⟨b, 5, none⟩ = some (.int .u32 (q.ow : Nat)) ∧ W.cell? ⟨b, 6, none⟩ = some (.bool q.sl) ∧ W.cell? ⟨b, 7, none⟩ = some q.gv ∧ W.cell? ⟨b, 8, none⟩ = some q.fv ∧ W.cell? ⟨b, 9, none⟩ = some (.string q.rs) := by
 have hb := h.bx
 refine ⟨?_, ?_, ?_, ?_, ?_, ?_, ?_, ?_, ?_, ?_⟩ <;> (simp only [World.cell?, hb]; rfl)
theorem QB.new (w : World) (q : QM) : QB w (w.alloc (.cells q.cs 138)) w.heap.size q := ⟨(Fr.refl _ _).alloc _, by simp, Array.getElem?_push_size⟩
theorem near_B {w W : World} {b : Nat} {q : QM} (h : QB w W b q) {v : Bool} (hv : q.near = v) : Calls Tryz.prog 127 #[q.v] W fun e w' => e = .returned (.bool v) ∧ QB w w' b q :=
 (isNear_any q W).mono fun _ _ h' => ⟨by rw [h'.1, ← hv]; rfl, h.step h'.2⟩
theorem own_B {w W : World} {b : Nat} {q : QM} (h : QB w W b q) {v : Bool} (hv : q.own = v) : Calls Tryz.prog 130 #[q.v] W fun e w' => e = .returned (.bool v) ∧ QB w w' b q :=
 (isOwner_any q W).mono fun _ _ h' => ⟨by rw [h'.1, ← hv]; rfl, h.step h'.2⟩
theorem gr_B {w W : World} {b : Nat} {q : QM} {S : List P3} {G : List Nat} {F : List F5} (h : QB w W b q) (hE : Hid (QE w q S G F)) {v : Bool} (hv : decide (q.p.a ∈ G) = v) : Calls Tryz.prog 131 #[q.v] W fun e w' => e = .returned (.bool v) ∧ QB w w' b q :=
 (isGranted_any q G W ((unhide hE).g.fr h.fr) (unhide hE).gl).mono fun _ _ h' => ⟨by rw [h'.1, ← hv], h.step h'.2⟩
theorem oip_B {w W : World} {b : Nat} {q : QM} {S : List P3} {G : List Nat} {F : List F5} (h : QB w W b q) (hE : Hid (QE w q S G F)) {v : Bool} (hv : ownP S q.ow = v) : Calls Tryz.prog 126 #[q.v] W fun e w' => e = .returned (.bool v) ∧ QB w w' b q :=
 (ownerIsPatient_any q S W ((unhide hE).s.fr h.fr) (unhide hE).sl).mono fun _ _ h' => ⟨by rw [h'.1, ← hv], h.step h'.2⟩
theorem txt_B {w W : World} {b : Nat} {q : QM} {S : List P3} {G : List Nat} {F : List F5} (h : QB w W b q) (hE : Hid (QE w q S G F)) {v : Bool} (hv : txts F = v) : Calls Tryz.prog 129 #[q.v] W fun e w' => e = .returned (.bool v) ∧ QB w w' b q :=
 (hasTexts_any q F W ((unhide hE).f.fr h.fr) (unhide hE).fl).mono fun _ _ h' => ⟨by rw [h'.1, ← hv], h.step h'.2⟩
theorem Us.lit (W : World) (l : List Nat) (ht : TypeId) : Us (W.alloc (.cells (l.map fun c => Value.int .u32 (c : Nat)).toArray ht)) (.slice (some ⟨W.heap.size, 0, none⟩) l.length l.length) l := by
 refine .inr ⟨W.heap.size, 0, l.length, rfl, fun j hj => ?_⟩
 rw [World.cell?_alloc_at _ _ _ _ rfl]
 simp [hj]
theorem is_B {w W : World} {b : Nat} {q : QM} (h : QB w W b q) (l : List Nat) {v : Bool} (hv : q.role l = v) (hl : l.length ≤ 3) : Calls Tryz.prog 128 #[q.v, .slice (some ⟨W.heap.size, 0, none⟩) l.length l.length] (W.alloc (.cells (l.map fun c => Value.int .u32 (c : Nat)).toArray 31)) fun e w' => e = .returned (.bool v) ∧ QB w w' b q :=
 (is_any q l _ _ (Us.lit W l _) (by omega)).mono fun _ _ h' => ⟨by rw [h'.1, ← hv]; rfl, (h.step ((Fr.refl _ _).alloc _)).step h'.2⟩
theorem is1_B {w W : World} {b : Nat} {q : QM} (h : QB w W b q) (x : Nat) {v : Bool} (hv : q.role [x] = v) : Calls Tryz.prog 128 #[q.v, .slice (some ⟨W.heap.size, 0, none⟩) 1 1] (W.alloc (.cells #[.int .u32 (x : Nat)] 31)) fun e w' => e = .returned (.bool v) ∧ QB w w' b q := is_B h [x] hv (by simp)
theorem is2_B {w W : World} {b : Nat} {q : QM} (h : QB w W b q) (x y : Nat) {v : Bool} (hv : q.role [x, y] = v) : Calls Tryz.prog 128 #[q.v, .slice (some ⟨W.heap.size, 0, none⟩) 2 2] (W.alloc (.cells #[.int .u32 (x : Nat), .int .u32 (y : Nat)] 31)) fun e w' => e = .returned (.bool v) ∧ QB w w' b q := is_B h [x, y] hv (by simp)
theorem is3_B {w W : World} {b : Nat} {q : QM} (h : QB w W b q) (x y z : Nat) {v : Bool} (hv : q.role [x, y, z] = v) : Calls Tryz.prog 128 #[q.v, .slice (some ⟨W.heap.size, 0, none⟩) 3 3] (W.alloc (.cells #[.int .u32 (x : Nat), .int .u32 (y : Nat), .int .u32 (z : Nat)] 31)) fun e w' => e = .returned (.bool v) ∧ QB w w' b q := is_B h [x, y, z] hv (by simp)
def rdF (q : QM) (G : List Nat) : Bool := q.own || (q.near && q.role [3]) || (q.near && q.role [2, 1] && !q.sl) || (decide (q.p.a ∈ G) && q.role [3, 2])
def whyRd (q : QM) : Nat := if q.near && q.role [2, 1] then 6 else 5
def crF (q : QM) (S : List P3) : Bool := ownP S q.ow && q.near && q.role [1, 2, 3]
def whyCr (q : QM) (S : List P3) : Nat := if ownP S q.ow then 5 else 1
def hiF (q : QM) (G : List Nat) : Bool := q.role [4] || rdF q G
def amF (q : QM) (G : List Nat) (F : List F5) : Bool := rdF q G && (q.role [2, 3] || q.role [1] && txts F)
def whyAm (q : QM) (G : List Nat) : Nat := if rdF q G then 5 else whyRd q
def reF (q : QM) : Bool := q.own || (q.near && q.role [3])
def seF (q : QM) : Bool := q.own
def brF (q : QM) : Bool := q.role [3, 2] && !q.rs.toList.isEmpty
end Go.Proofs.YtiknjghcjaaenaaGreatDoor
