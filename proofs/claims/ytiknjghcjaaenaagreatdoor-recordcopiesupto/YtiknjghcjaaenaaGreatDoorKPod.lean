import Derived.Test.YtiknjghcjaaenaaGreatDoorKPoc
namespace Go.Proofs.YtiknjghcjaaenaaGreatDoor
open Go.RowKit
@[go_sem] theorem run_store_float (P : Program) (w : World) (a : Addr) (m : Mode) (k : FloatKind) (x : Nat) : (store a (.float k x) m).run P w = stored P w a (.float k x) m := run_store P w a _ m rfl
structure F5 where
 n : ByteArray
 k : Nat
 t : ByteArray
 v : Nat
 u : Nat
def Fds (w : World) (x : Value) (l : List F5) : Prop :=
 (∃ a c, x = .slice a 0 c ∧ l = []) ∨ ∃ g o c, x = .slice (some ⟨g, o, none⟩) l.length c ∧ ∀ j (h : j < l.length), w.cell? ⟨g, o + j * 5, none⟩ = some (.string l[j].n) ∧ w.cell? ⟨g, o + j * 5 + 1, none⟩ = some (.int .u8 (l[j].k : Nat)) ∧ w.cell? ⟨g, o + j * 5 + 2, none⟩ = some (.string l[j].t) ∧ w.cell? ⟨g, o + j * 5 + 3, none⟩ = some (.float .f32 l[j].v) ∧ w.cell? ⟨g, o + j * 5 + 4, none⟩ = some (.int .u8 (l[j].u : Nat))
theorem Fds.form {w : World} {x : Value} {l : List F5} (h : Fds w x l) : ∃ xo xc, x = .slice xo l.length xc := by
 rcases h with ⟨a, c, rfl, rfl⟩ | ⟨g, o, c, rfl, _⟩ <;> exact ⟨_, _, rfl⟩
theorem Fds.fr {w w' : World} {x : Value} {l : List F5} (h : Fds w x l) (hf : Fr (fun _ => False) w w') : Fds w' x l := by
 rcases h with h | ⟨g, o, c, h1, h2⟩
 ·exact .inl h
 ·refine .inr ⟨g, o, c, h1, fun j hj => ?_⟩
  obtain ⟨c0, c1, c2, c3, c4⟩ := h2 j hj
  have hg : g < w.heap.size := lt_of_cell c0
  exact ⟨(hf.cell (p := ⟨g, _, none⟩) hg (fun h => h)).trans c0, (hf.cell (p := ⟨g, _, none⟩) hg (fun h => h)).trans c1, (hf.cell (p := ⟨g, _, none⟩) hg (fun h => h)).trans c2, (hf.cell (p := ⟨g, _, none⟩) hg (fun h => h)).trans c3, (hf.cell (p := ⟨g, _, none⟩) hg (fun h => h)).trans c4⟩
theorem Fds.at_ {w : World} {xo : Option Addr} {n c : Nat} {l : List F5} (h : Fds w (.slice xo n c) l) (j : Nat) (hj : j < l.length) : ∃ g o, xo = some ⟨g, o, none⟩ ∧ w.cell? ⟨g, o + j * 5, none⟩ = some (.string l[j].n) ∧ w.cell? ⟨g, o + j * 5 + 1, none⟩ = some (.int .u8 (l[j].k : Nat)) ∧ w.cell? ⟨g, o + j * 5 + 2, none⟩ = some (.string l[j].t) ∧ w.cell? ⟨g, o + j * 5 + 3, none⟩ = some (.float .f32 l[j].v) ∧ w.cell? ⟨g, o + j * 5 + 4, none⟩ = some (.int .u8 (l[j].u : Nat)) := by
 rcases h with ⟨_, _, _, rfl⟩ | ⟨g, o, c', e, h2⟩
 ·simp at hj
 ·simp only [Value.slice.injEq] at e
  obtain ⟨rfl, _, _⟩ := e
  exact ⟨g, o, rfl, h2 j hj⟩
def txts (l : List F5) : Bool := l.all fun f => decide (f.k = 1)
set_option maxRecDepth 100000 in
theorem hasTexts_any (q : QM) (l : List F5) (w : World) (hx : Fds w q.fv l) (hl : l.length ≤ 140737488355328) :
  Calls Tryz.prog 129 #[q.v] w fun e w' => e = .returned (.bool (txts l)) ∧ Fr (fun _ => False) w w' := by
 obtain ⟨xo, xc, hxe⟩ := hx.form
 obtain ⟨sv, ⟨pa, pr, pw⟩, wd, ow, sl, gv, fv, rs⟩ := q
 simp only at hxe hx
 subst hxe
 have HX := hide hx
 clear hx
 simp only [QM.v]
 go_enter Tryz.func129, Tryz.ntmps129
 go_wp2_with fail
 obtain ⟨w1, hw1⟩ : ∃ w1, w.alloc (.cells #[sv, .int .u32 (pa : Nat), .int .u32 (pr : Nat), .int .u32 (pw : Nat), .int .u32 (wd : Nat), .int .u32 (ow : Nat), .bool sl, gv, .slice xo l.length xc, .string rs] 138) = w1 := ⟨_, rfl⟩
 have hf1 : Fr (fun _ => False) w w1 := by rw [← hw1]; exact (Fr.refl _ _).alloc _
 have HB := hide hf1
 have HX1 := hide ((unhide HX).fr hf1)
 rw [hw1]
 clear hw1 hf1 HX
 go_loopw [8] (fun iv wr => ∃ j : Nat, j ≤ l.length ∧ iv = .int .i64 (j : Nat) ∧ (∀ i (hi : i < l.length), i < j → l[i].k = 1) ∧ Fr (fun _ => False) w1 wr) (fun iv _ => l.length - (intOf iv).toNat)
 case atStart => exact ⟨0, Nat.zero_le _, rfl, fun i _ h => by omega, Fr.refl _ _⟩
 case round =>
  obtain ⟨j, hj, rfl, hno, hfr⟩ := hrel
  have HF := hide (And.intro hno hfr)
  clear hno
  by_cases hlt : j < l.length
  ·obtain ⟨g, o, rfl, c0, c1, c2, c3, c4⟩ := ((unhide HX1).fr hfr).at_ j hlt
   have hgl : g < wr.heap.size := lt_of_cell c0
   clear hfr
   obtain ⟨P, hPe⟩ : ∃ P, l[j] = P := ⟨_, rfl⟩
   rw [hPe] at c0 c1 c2 c3 c4
   have HP := hide hPe
   obtain ⟨fn, fk, ft, fv, fu⟩ := P
   simp only at c0 c1 c2 c3 c4
   clear hPe
   by_cases hk : fk = 1
   ·subst hk
    go_wp2_with fail
    go_roundw
    case rel =>
     refine ⟨j + 1, hlt, rfl, fun i hi h => ?_, (unhide HF).2.alloc _⟩
     rcases Nat.lt_or_ge i j with h1 | h1
     ·exact (unhide HF).1 i hi h1
     ·obtain rfl : i = j := by omega
      rw [unhide HP]
    case measure => simp [intOf]; omega
   ·have HK := hide (show txts l = false by
     rw [txts, List.all_eq_false]
     refine ⟨l[j], List.getElem_mem hlt, ?_⟩
     rw [unhide HP]; simpa using hk)
    have hk' : ¬ (fk : Int) = 1 := by omega
    go_wp2_with fail
    go_ret
    exact ⟨by rw [unhide HK]; rfl, ((unhide HB).trans (unhide HF).2 (fun _ _ h => h)).alloc _⟩
  ·have HK := hide (show txts l = true by
    rw [txts, List.all_eq_true]
    intro x hx
    obtain ⟨i, hi, rfl⟩ := List.mem_iff_getElem.1 hx
    simpa using (unhide HF).1 i hi (by omega))
   clear hfr
   go_wp2_with fail
   go_ret
   exact ⟨by rw [unhide HK]; rfl, (unhide HB).trans (unhide HF).2 (fun _ _ h => h)⟩
end Go.Proofs.YtiknjghcjaaenaaGreatDoor
