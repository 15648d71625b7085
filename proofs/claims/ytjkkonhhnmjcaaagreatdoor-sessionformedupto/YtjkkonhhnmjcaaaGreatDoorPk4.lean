import Derived.Test.YtjkkonhhnmjcaaaGreatDoorPk2
import Derived.Test.YtjkkonhhnmjcaaaGreatDoorPk1
import Derived.Test.YtjkkonhhnmjcaaaGreatDoorFai
import Derived.Test.YtjkkonhhnmjcaaaGreatDoorTld
import Derived.Test.YtjkkonhhnmjcaaaGreatDoorAwl
import Derived.Test.YtjkkonhhnmjcaaaGreatDoorPk3
import Derived.Test.YtjkkonhhnmjcaaaGreatDoorBase
import Derived.Laws.OwnMore
import Derived.Deep.Cut
import Derived.Deep.CutRange
import Derived.BigQuiet
import Derived.Deep.QuietTactic
import Derived.KernelRfl
import Derived.Deep.RegionHeld3
import Derived.Deep.MidRow
import Derived.Laws.StructEq
import Derived.Laws.ResultCell
import GoSem.Core.Float
import Derived.Laws.NewFold
import GoSem.Builtin.Min
import GoSem.Builtin.Max
import Derived.Test.YtjkkonhhnmjcaaaGreatDoorDrw
namespace Go.Proofs.YtjkkonhhnmjcaaaGreatDoor
open Go.RowKit

theorem Tryz.wh_Request (p : Addr) (w : World) : (Instr.typeAssert (.iface 78 (.pointer (some p))) 20 78 true).run Tryz.prog w = .ok (.tuple #[.pointer (some p), .bool true]) w := by kernel_rfl
theorem Tryz.wh_Answer (p : Addr) (w : World) : (Instr.typeAssert (.iface 97 (.pointer (some p))) 20 97 true).run Tryz.prog w = .ok (.tuple #[.pointer (some p), .bool true]) w := by kernel_rfl
theorem Tryz.wm_Answer_Request (p : Addr) (w : World) : (Instr.typeAssert (.iface 97 (.pointer (some p))) 20 78 true).run Tryz.prog w = .ok (.tuple #[.pointer none, .bool false]) w := by kernel_rfl
theorem Tryz.wh_Event (p : Addr) (w : World) : (Instr.typeAssert (.iface 99 (.pointer (some p))) 20 99 true).run Tryz.prog w = .ok (.tuple #[.pointer (some p), .bool true]) w := by kernel_rfl
theorem Tryz.wm_Event_Request (p : Addr) (w : World) : (Instr.typeAssert (.iface 99 (.pointer (some p))) 20 78 true).run Tryz.prog w = .ok (.tuple #[.pointer none, .bool false]) w := by kernel_rfl
theorem Tryz.wm_Event_Answer (p : Addr) (w : World) : (Instr.typeAssert (.iface 99 (.pointer (some p))) 20 97 true).run Tryz.prog w = .ok (.tuple #[.pointer none, .bool false]) w := by kernel_rfl
theorem Tryz.wh_Head (p : Addr) (w : World) : (Instr.typeAssert (.iface 101 (.pointer (some p))) 20 101 true).run Tryz.prog w = .ok (.tuple #[.pointer (some p), .bool true]) w := by kernel_rfl
theorem Tryz.wm_Head_Request (p : Addr) (w : World) : (Instr.typeAssert (.iface 101 (.pointer (some p))) 20 78 true).run Tryz.prog w = .ok (.tuple #[.pointer none, .bool false]) w := by kernel_rfl
theorem Tryz.wm_Head_Answer (p : Addr) (w : World) : (Instr.typeAssert (.iface 101 (.pointer (some p))) 20 97 true).run Tryz.prog w = .ok (.tuple #[.pointer none, .bool false]) w := by kernel_rfl
theorem Tryz.wm_Head_Event (p : Addr) (w : World) : (Instr.typeAssert (.iface 101 (.pointer (some p))) 20 99 true).run Tryz.prog w = .ok (.tuple #[.pointer none, .bool false]) w := by kernel_rfl
theorem Tryz.wh_Signed (p : Addr) (w : World) : (Instr.typeAssert (.iface 103 (.pointer (some p))) 20 103 true).run Tryz.prog w = .ok (.tuple #[.pointer (some p), .bool true]) w := by kernel_rfl
theorem Tryz.wm_Signed_Request (p : Addr) (w : World) : (Instr.typeAssert (.iface 103 (.pointer (some p))) 20 78 true).run Tryz.prog w = .ok (.tuple #[.pointer none, .bool false]) w := by kernel_rfl
theorem Tryz.wm_Signed_Answer (p : Addr) (w : World) : (Instr.typeAssert (.iface 103 (.pointer (some p))) 20 97 true).run Tryz.prog w = .ok (.tuple #[.pointer none, .bool false]) w := by kernel_rfl
theorem Tryz.wm_Signed_Event (p : Addr) (w : World) : (Instr.typeAssert (.iface 103 (.pointer (some p))) 20 99 true).run Tryz.prog w = .ok (.tuple #[.pointer none, .bool false]) w := by kernel_rfl
theorem Tryz.wm_Signed_Head (p : Addr) (w : World) : (Instr.typeAssert (.iface 103 (.pointer (some p))) 20 101 true).run Tryz.prog w = .ok (.tuple #[.pointer none, .bool false]) w := by kernel_rfl
theorem Tryz.wh_Proof (p : Addr) (w : World) : (Instr.typeAssert (.iface 105 (.pointer (some p))) 20 105 true).run Tryz.prog w = .ok (.tuple #[.pointer (some p), .bool true]) w := by kernel_rfl
theorem Tryz.wm_Proof_Request (p : Addr) (w : World) : (Instr.typeAssert (.iface 105 (.pointer (some p))) 20 78 true).run Tryz.prog w = .ok (.tuple #[.pointer none, .bool false]) w := by kernel_rfl
theorem Tryz.wm_Proof_Answer (p : Addr) (w : World) : (Instr.typeAssert (.iface 105 (.pointer (some p))) 20 97 true).run Tryz.prog w = .ok (.tuple #[.pointer none, .bool false]) w := by kernel_rfl
theorem Tryz.wm_Proof_Event (p : Addr) (w : World) : (Instr.typeAssert (.iface 105 (.pointer (some p))) 20 99 true).run Tryz.prog w = .ok (.tuple #[.pointer none, .bool false]) w := by kernel_rfl
theorem Tryz.wm_Proof_Head (p : Addr) (w : World) : (Instr.typeAssert (.iface 105 (.pointer (some p))) 20 101 true).run Tryz.prog w = .ok (.tuple #[.pointer none, .bool false]) w := by kernel_rfl
theorem Tryz.wm_Proof_Signed (p : Addr) (w : World) : (Instr.typeAssert (.iface 105 (.pointer (some p))) 20 103 true).run Tryz.prog w = .ok (.tuple #[.pointer none, .bool false]) w := by kernel_rfl
theorem Tryz.wh_Message (p : Addr) (w : World) : (Instr.typeAssert (.iface 107 (.pointer (some p))) 20 107 true).run Tryz.prog w = .ok (.tuple #[.pointer (some p), .bool true]) w := by kernel_rfl
theorem Tryz.wm_Message_Request (p : Addr) (w : World) : (Instr.typeAssert (.iface 107 (.pointer (some p))) 20 78 true).run Tryz.prog w = .ok (.tuple #[.pointer none, .bool false]) w := by kernel_rfl
theorem Tryz.wm_Message_Answer (p : Addr) (w : World) : (Instr.typeAssert (.iface 107 (.pointer (some p))) 20 97 true).run Tryz.prog w = .ok (.tuple #[.pointer none, .bool false]) w := by kernel_rfl
theorem Tryz.wm_Message_Event (p : Addr) (w : World) : (Instr.typeAssert (.iface 107 (.pointer (some p))) 20 99 true).run Tryz.prog w = .ok (.tuple #[.pointer none, .bool false]) w := by kernel_rfl
theorem Tryz.wm_Message_Head (p : Addr) (w : World) : (Instr.typeAssert (.iface 107 (.pointer (some p))) 20 101 true).run Tryz.prog w = .ok (.tuple #[.pointer none, .bool false]) w := by kernel_rfl
theorem Tryz.wm_Message_Signed (p : Addr) (w : World) : (Instr.typeAssert (.iface 107 (.pointer (some p))) 20 103 true).run Tryz.prog w = .ok (.tuple #[.pointer none, .bool false]) w := by kernel_rfl
theorem Tryz.wm_Message_Proof (p : Addr) (w : World) : (Instr.typeAssert (.iface 107 (.pointer (some p))) 20 105 true).run Tryz.prog w = .ok (.tuple #[.pointer none, .bool false]) w := by kernel_rfl

theorem CS.pHash_mode (c : CS) (nm : ByteArray) (v : List Nat) : ∀ q, c = .rd q → ∃ q', (c.pHash nm v).1 = .rd q' := by rintro q rfl; exact ⟨_, rfl⟩
theorem CS.pHead_mode (c : CS) (v : Nat × List Nat) : ∀ q, c = .rd q → ∃ q', (c.pHead v).1 = .rd q' := by rintro q rfl; exact ⟨_, rfl⟩
theorem CS.pHead_room {c : CS} {n : Nat} (h : c.room (n + 2)) (v : Nat × List Nat) : (c.pHead v).1.room n := CS.pHash_room (CS.pU32_room h _ _ _) _ _
/-- A signed head: size, root, key, signature. -/
def CS.pSigned (c : CS) (v : (Nat × List Nat) × Nat × List Nat) : CS × (Nat × List Nat) × Nat × List Nat :=
  ((((c.pHead v.1).1.pU32 n_key [] v.2.1).1.pByt n_signature 32768 [fun v => szN 0 32768 v.length] v.2.2).1, (c.pHead v.1).2, ((c.pHead v.1).1.pU32 n_key [] v.2.1).2, (((c.pHead v.1).1.pU32 n_key [] v.2.1).1.pByt n_signature 32768 [fun v => szN 0 32768 v.length] v.2.2).2)
set_option maxRecDepth 100000 in
/-- signed. -/
theorem signed_any (c : CS) (size key : Nat) (root sig : List Nat) (x y : Value) (cb b g o : Nat) (F : Nat → Prop) (E : Nat → Addr) (w : World) (h : Cd w cb b F c E) (hp0 : w.cell? ⟨g, o, none⟩ = some (.int .u32 (size : Nat))) (hp1 : w.cell? ⟨g, o + 1, none⟩ = some x) (hp2 : w.cell? ⟨g, o + 2, none⟩ = some (.int .u32 (key : Nat))) (hp3 : w.cell? ⟨g, o + 3, none⟩ = some y) (hB : BVg w x root F g) (hB2 : BVg w y sig F g) (hL : ∀ i, Loc w cb F g i) (hsz : size < 4294967296) (hkey : key < 4294967296) (hroom : c.room 4) :
    Calls Tryz.prog 38 #[.pointer (some ⟨cb, 0, none⟩), .pointer (some ⟨g, o, none⟩)] w fun e w' => e = .returned (.tuple #[]) ∧ ∃ F', Cd w' cb b F' (c.pSigned ((size, root), key, sig)).1 E ∧ w'.cell? ⟨g, o, none⟩ = some (.int .u32 ((c.pSigned ((size, root), key, sig)).2.1.1 : Nat)) ∧ w'.cell? ⟨g, o + 2, none⟩ = some (.int .u32 ((c.pSigned ((size, root), key, sig)).2.2.1 : Nat)) ∧ ∃ x' y', w'.cell? ⟨g, o + 1, none⟩ = some x' ∧ w'.cell? ⟨g, o + 3, none⟩ = some y' ∧ BO w w' c x' (c.pSigned ((size, root), key, sig)).2.1.2 F' g ∧ BO w w' c y' (c.pSigned ((size, root), key, sig)).2.2.2 F' g ∧ Stp w w' F F' (cellsAt g o 4) := by
  have H := hide (And.intro h (And.intro hB2 hL))
  have HH := hide (head_any c size root x cb b g o F E w h hp0 hp1 hB hL hsz (by simp only [CS.room] at *; omega))
  have hgl := (hL o).lt
  have hgF := (hL o).nF
  clear h hB hB2 hL
  go_enter Tryz.func38, Tryz.ntmps38
  go_wp2_with fail
  refine (unhide HH).mono ?_
  rintro e w1 ⟨rfl, F1, hC1, hc1, x1, hx1, ho1, hs1⟩
  have hgl1 := Nat.lt_of_lt_of_le hgl hs1.size
  have hgF1 := hs1.nF hgl hgF
  have hp2' : w1.cell? ⟨g, o + 2, none⟩ = some (.int .u32 (key : Nat)) := (hs1.oth g (o + 2) hgl hgF (fun h => by have := h.2; omega)).trans hp2
  have hp3' : w1.cell? ⟨g, o + 3, none⟩ = some y := (hs1.oth g (o + 3) hgl hgF (fun h => by have := h.2; omega)).trans hp3
  have hB1 := (unhide H).2.1.stp hs1 (fun k i _ h => h.1)
  have hr1 : (c.pHead (size, root)).1.room 2 := CS.pHead_room (by simpa using hroom) _
  have HN := hide (number_u32 (c.pHead (size, root)).1 n_key [] key cb b g (o + 2) F1 E (.slice none 0 0) w1 hC1 hp2' (((unhide H).2.2 (o + 2)).stp hs1) hkey (RuC.nil _ w1 F1 g E) (by simp only [CS.room] at *; omega))
  have H1 := hide (And.intro hs1 (And.intro hc1 (And.intro hC1 (And.intro hB1 (And.intro hx1 (And.intro ho1 (And.intro hp3' (And.intro hgF1 hr1))))))))
  clear hs1 hc1 hC1 hB1 hx1 ho1 hp3' hgF1 hr1
  go_wp2_with fail
  refine (unhide HN).mono ?_
  rintro e w2 ⟨rfl, F2, hC2, hc2, hs2⟩
  obtain ⟨hs1, hc1, hC1, hB1, hx1, ho1, hp3', hgF1, hr1⟩ := unhide H1
  have hgl2 := Nat.lt_of_lt_of_le hgl1 hs2.size
  have hgF2 := hs2.nF hgl1 hgF1
  have hP2 : ∀ k i, k < w1.heap.size → (k = g ∧ i = o + 2) → k = g := fun k i _ h => h.1
  have hB2 := hB1.stp hs2 hP2
  have hp3'' : w2.cell? ⟨g, o + 3, none⟩ = some y := (hs2.oth g (o + 3) hgl1 hgF1 (fun h => by omega)).trans hp3'
  have hr2 := CS.pU32_room (n := 1) hr1 n_key [] key
  have HR := hide (run_byt ((c.pHead (size, root)).1.pU32 n_key [] key).1 n_signature 0 32768 [] y sig cb b g (o + 3) F2 E (.slice none 0 0) w2 hC2 hp3'' hB2.bv ((((unhide H).2.2 (o + 3)).stp hs1).stp hs2) hB2.len (by decide) (RuC.nil _ w2 F2 g E) (by decide) hr2)
  have hx2 : w2.cell? ⟨g, o + 1, none⟩ = some x1 := (hs2.oth g (o + 1) hgl1 hgF1 (fun h => by omega)).trans hx1
  have hz2 : w2.cell? ⟨g, o, none⟩ = some (.int .u32 ((c.pHead (size, root)).2.1 : Nat)) := (hs2.oth g o hgl1 hgF1 (fun h => by omega)).trans hc1
  have ho2 := ho1.stp hs2 hP2
  have hs02 : Stp w w2 F F2 (cellsAt g o 4) := (hs1.mono (fun k j _ h => ⟨h.1, h.2.1, by have := h.2.2; omega⟩)).trans hs2 (fun k j _ h => ⟨h.1, by omega, by omega⟩)
  have H2 := hide (And.intro hs02 (And.intro hc2 (And.intro hC2 (And.intro hB2 (And.intro hx2 (And.intro ho2 (And.intro hz2 (And.intro hgF2 hgl2))))))))
  clear hs1 hc1 hC1 hB1 hx1 ho1 hp3' hgF1 hr1 hs2 hc2 hC2 hB2 hx2 ho2 hp3'' hgF2 hr2 hP2 hs02 hz2 H1 HN HH
  go_wp2_with fail
  refine (unhide HR).mono ?_
  rintro e w3 ⟨rfl, F3, y3, hC3, hy3, hyo, hyn, hs3⟩
  obtain ⟨hs02, hc2, hC2, hB2, hx2, ho2, hz2, hgF2, hgl2⟩ := unhide H2
  have hbo := (bo_of hC2 hB2 hgl2 hs3 hyo hyn).mode (w0 := w) (c := c) hs02.size (by rintro q rfl; exact ⟨_, rfl⟩)
  have H3 := hide (And.intro hC3 (And.intro ((hs3.oth g o hgl2 hgF2 (fun h => by omega)).trans hz2) (And.intro ((hs3.oth g (o + 2) hgl2 hgF2 (fun h => by omega)).trans hc2) (And.intro ((hs3.oth g (o + 1) hgl2 hgF2 (fun h => by omega)).trans hx2) (And.intro hy3 (And.intro (ho2.stp hs3 (fun k j _ h => h.1)) (And.intro hbo (hs02.trans hs3 (fun k j _ h => ⟨h.1, by omega, by omega⟩)))))))))
  clear hC3 hy3 hyo hyn hs3 hs02 hc2 hC2 hB2 hx2 ho2 hz2 hgF2 hgl2 hbo
  go_wp2_with fail
  go_end0
  obtain ⟨a1, a2, a3, a4, a5, a6, a7, a8⟩ := unhide H3
  exact ⟨rfl, F3, a1, a2, a3, x1, y3, a4, a5, a6, a7, a8⟩
end Go.Proofs.YtjkkonhhnmjcaaaGreatDoor

namespace Go.Proofs.YtjkkonhhnmjcaaaGreatDoor
open Go.RowKit

theorem val_mul (x c : Nat) (hx : x < 72057594037927936) : IntKind.u64.wrap (IntKind.u64.wrap ((x : Int) * 256) + ((c % 256 : Nat) : Int)) = ((x * 256 + c % 256 : Nat) : Int) := by
  rw [IntKind.wrap_u64, IntKind.wrap_u64]; omega

end Go.Proofs.YtjkkonhhnmjcaaaGreatDoor

namespace Go.Proofs.YtjkkonhhnmjcaaaGreatDoor
open Go.RowKit

theorem and_exp (x : Nat) : x &&& 2139095040 = x / 8388608 % 256 * 8388608 := by
  have e1 : (2139095040 : Nat) = (2 ^ 8 - 1) * 2 ^ 23 := by decide
  have e2 : x / 8388608 % 256 * 8388608 = x / 2 ^ 23 % 2 ^ 8 * 2 ^ 23 := rfl
  rw [e1, e2]
  apply Nat.eq_of_testBit_eq
  intro i
  rw [Nat.testBit_and, Nat.testBit_mul_two_pow, Nat.testBit_mul_two_pow, Nat.testBit_two_pow_sub_one, Nat.testBit_mod_two_pow, Nat.testBit_div_two_pow]
  by_cases h : 23 ≤ i
  · rw [show i - 23 + 23 = i from by omega]
    simp [h, Bool.and_comm]
  · simp [h]
theorem quantB_eq (x : Nat) : quantB x = ((x / 8388608 % 256 != 255) && (x != 2147483648)) := by
  unfold quantB
  rw [and_exp, Bool.eq_iff_iff]
  simp
  omega

end Go.Proofs.YtjkkonhhnmjcaaaGreatDoor

namespace Go.Proofs.YtjkkonhhnmjcaaaGreatDoor
open Go.RowKit

/-- The ref's reader, as a value. -/
def rdV (xo : Option Addr) (len xc : Nat) (place last : Int) (nm fw : ByteArray) (fa fy : Int) : Value :=
  .agg #[.slice xo len xc, .int .i64 place, .int .i64 last, .string nm, .string fw, .int .i64 fa, .int .i64 fy]

end Go.Proofs.YtjkkonhhnmjcaaaGreatDoor

namespace Go.Proofs.YtjkkonhhnmjcaaaGreatDoor
open Go.RowKit

theorem cut_at {w : World} {xo : Option Addr} {all : List Nat} {xc place n : Nat} (hx : Src w (.slice xo all.length xc) all) (hlc : all.length ≤ xc) (hs : n + place ≤ all.length) (hn : 0 < n) : Src w (.slice (Option.map (fun x => x.add place) xo) n (xc - place)) ((all.drop place).take n) := by
  have h := hx.cut place n hs hlc
  rw [if_neg (by omega)] at h
  exact h

end Go.Proofs.YtjkkonhhnmjcaaaGreatDoor

namespace Go.Proofs.YtjkkonhhnmjcaaaGreatDoor
open Go.RowKit

theorem val4_lt (all : List Nat) (place : Nat) : val ((all.drop place).take 4) < 4294967296 := by
  have h1 := val_lt ((all.drop place).take 4)
  have h2 : ((all.drop place).take 4).length ≤ 4 := by simp; omega
  exact Nat.lt_of_lt_of_le h1 (Nat.le_trans (Nat.pow_le_pow_right (by decide) h2) (by decide))

end Go.Proofs.YtjkkonhhnmjcaaaGreatDoor

namespace Go.Proofs.YtjkkonhhnmjcaaaGreatDoor
open Go.RowKit

theorem make0 (x : Nat) (w : World) (hx : x ≤ 16777216) : ∃ w', (Instr.makeSlice 35 (.int .i64 0) (.int .i64 (x : Int))).run Tryz.prog w = .ok (.slice (some ⟨w.heap.size, 0, none⟩) 0 x) w' ∧ w'.ownsRow w.heap.size 5 1 (.slice (some ⟨w.heap.size, 0, none⟩) 0 x) 0 [] ∧ Fr (fun _ => False) w w' := by
  have hz' : (Tryz.prog.info? 5).bind (·.zero) = some (.int .u8 0) := by kernel_rfl
  have hs' : (Tryz.prog.info? 5).map (·.size) = some 1 := by kernel_rfl
  have hb' : (Tryz.prog.info? 5).map (·.bytes) = some 1 := by kernel_rfl
  obtain ⟨i, hi, hz⟩ := Option.bind_eq_some_iff.1 hz'
  rw [hi] at hs' hb'
  have hs : i.size = 1 := by simpa using hs'
  have hb : i.bytes = 1 := by simpa using hb'
  obtain ⟨w', hr, ho, hg⟩ := run_makeSlice_owned (P := Tryz.prog) w w.heap.size 35 5 i (.int .u8 0) 1 Tryz.underlying35 hi hz hs .i64 .i64 x (by omega) (by rw [hb]; omega) (by simp only [maxLen]; omega) (Nat.le_refl _)
  exact ⟨w', hr, ho, (Fr.refl _ _).grown hg (fun _ h => by cases h)⟩
/-- Seven cells of one block. -/
def C7 (w : World) (g : Nat) (a0 a1 a2 a3 a4 a5 a6 : Value) : Prop :=
  w.cell? ⟨g, 0, none⟩ = some a0 ∧ w.cell? ⟨g, 1, none⟩ = some a1 ∧ w.cell? ⟨g, 2, none⟩ = some a2 ∧ w.cell? ⟨g, 3, none⟩ = some a3 ∧ w.cell? ⟨g, 4, none⟩ = some a4 ∧ w.cell? ⟨g, 5, none⟩ = some a5 ∧ w.cell? ⟨g, 6, none⟩ = some a6 ∧ ∀ i, w.frozen? ⟨g, i, none⟩ = false
theorem C7.fr {w w' : World} {g : Nat} {a0 a1 a2 a3 a4 a5 a6 : Value} {S : Nat → Prop} (h : C7 w g a0 a1 a2 a3 a4 a5 a6) (hf : Fr S w w') (hS : ¬ S g) : C7 w' g a0 a1 a2 a3 a4 a5 a6 := by
  obtain ⟨h0, h1, h2, h3, h4, h5, h6, hz⟩ := h
  have hg : g < w.heap.size := lt_of_cell h0
  have key : ∀ {i : Nat} {v : Value}, w.cell? ⟨g, i, none⟩ = some v → w'.cell? ⟨g, i, none⟩ = some v := fun h => (hf.cell hg hS).trans h
  exact ⟨key h0, key h1, key h2, key h3, key h4, key h5, key h6, fun i => (hf.frozen hg hS).trans (hz i)⟩

theorem c7_new (w : World) (a0 a1 a2 a3 a4 a5 a6 : Value) (t : TypeId) : C7 (w.alloc (.cells #[a0, a1, a2, a3, a4, a5, a6] t)) w.heap.size a0 a1 a2 a3 a4 a5 a6 := by simp [C7]
theorem c7_first (w : World) (a0 a1 a2 a3 a4 a5 a6 : Value) (t : TypeId) (o2 o3 : Obj) : C7 (((w.alloc (.cells #[a0, a1, a2, a3, a4, a5, a6] t)).alloc o2).alloc o3) w.heap.size a0 a1 a2 a3 a4 a5 a6 := (c7_new w a0 a1 a2 a3 a4 a5 a6 t).fr (box2 _ o2 o3) (fun h => h)
theorem c7_third (w : World) (o1 o2 : Obj) (a0 a1 a2 a3 a4 a5 a6 : Value) (t : TypeId) : C7 (((w.alloc o1).alloc o2).alloc (.cells #[a0, a1, a2, a3, a4, a5, a6] t)) (w.heap.size + 1 + 1) a0 a1 a2 a3 a4 a5 a6 := by
  have h := c7_new ((w.alloc o1).alloc o2) a0 a1 a2 a3 a4 a5 a6 t
  have e : ((w.alloc o1).alloc o2).heap.size = w.heap.size + 1 + 1 := by simp
  rw [e] at h
  exact h

theorem set_step {w : World} {g j : Nat} {f : Nat → Value} {v : Value} (h : ∀ i, i < 7 → w.cell? ⟨g, i, none⟩ = some (f i)) (hj : j < 7) : ∀ i, i < 7 → (w.setCell ⟨g, j, none⟩ v).cell? ⟨g, i, none⟩ = some (if i = j then v else f i) := fun i hi => by
  by_cases e : i = j
  · subst e
    rw [World.cell?_setCell_same _ _ _ (h i hi), if_pos rfl]
  · rw [World.cell?_setCell_other _ _ _ _ (by intro h; injection h with _ h2 _; exact e h2.symm), h i hi, if_neg e]
theorem set7 {w : World} {g : Nat} {o0 o1 o2 o3 o4 o5 o6 : Value} (a0 a1 a2 a3 a4 a5 a6 : Value) (h : C7 w g o0 o1 o2 o3 o4 o5 o6) :
    C7 (((((((w.setCell ⟨g, 0, none⟩ a0).setCell ⟨g, 1, none⟩ a1).setCell ⟨g, 2, none⟩ a2).setCell ⟨g, 3, none⟩ a3).setCell ⟨g, 4, none⟩ a4).setCell ⟨g, 5, none⟩ a5).setCell ⟨g, 6, none⟩ a6) g a0 a1 a2 a3 a4 a5 a6 ∧
      Fr (fun k => k = g) w (((((((w.setCell ⟨g, 0, none⟩ a0).setCell ⟨g, 1, none⟩ a1).setCell ⟨g, 2, none⟩ a2).setCell ⟨g, 3, none⟩ a3).setCell ⟨g, 4, none⟩ a4).setCell ⟨g, 5, none⟩ a5).setCell ⟨g, 6, none⟩ a6) := by
  obtain ⟨h0, h1, h2, h3, h4, h5, h6, hz⟩ := h
  have k : ∀ i, i < 7 → w.cell? ⟨g, i, none⟩ = some ([o0, o1, o2, o3, o4, o5, o6].getD i .nilIface) := fun i hi => by
    match i, hi with
    | 0, _ => exact h0
    | 1, _ => exact h1
    | 2, _ => exact h2
    | 3, _ => exact h3
    | 4, _ => exact h4
    | 5, _ => exact h5
    | 6, _ => exact h6
  have q := set_step (v := a6) (j := 6) (set_step (v := a5) (j := 5) (set_step (v := a4) (j := 4) (set_step (v := a3) (j := 3) (set_step (v := a2) (j := 2) (set_step (v := a1) (j := 1) (set_step (v := a0) (j := 0) k (by decide)) (by decide)) (by decide)) (by decide)) (by decide)) (by decide)) (by decide)
  refine ⟨⟨q 0 (by decide), q 1 (by decide), q 2 (by decide), q 3 (by decide), q 4 (by decide), q 5 (by decide), q 6 (by decide), fun i => by simp only [World.frozen?_setCell]; exact hz i⟩, ?_⟩
  have s : ∀ {a b : World} {p : Addr} (v : Value), p.block = g → Fr (fun k => k = g) a b → Fr (fun k => k = g) a (b.setCell p v) := fun v hp hf => Fr.setCell hf (.inl hp) v
  exact s _ rfl (s _ rfl (s _ rfl (s _ rfl (s _ rfl (s _ rfl (s _ rfl (Fr.refl _ _)))))))

theorem rd_end {w w2 : World} {xo ao : Option Addr} {len xc place x ac : Nat} {nm fw : ByteArray} {fa : Int} {l2 : List Nat} {b0 b1 b2 b3 b4 b5 b6 : Value} (hC : C7 w2 (w.heap.size + 1 + 1) b0 b1 b2 b3 b4 b5 b6)
    (hO : Src w2 (.slice ao x ac) l2 ∧ ∀ g o m c, (Value.slice ao x ac) = .slice (some ⟨g, o, none⟩) m c → w.heap.size + 1 + 1 + 1 ≤ g) (hF0 : Fr (fun _ => False) w w2) :
    ∃ W9, W9 = (((((((((w2.setCell ⟨w.heap.size, 2, none⟩ (.int .i64 place)).setCell ⟨w.heap.size, 1, none⟩ (.int .i64 ((place : Int) + 4 + x))).setCell ⟨w.heap.size + 1 + 1, 0, none⟩ (.slice xo len xc)).setCell ⟨w.heap.size + 1 + 1, 1, none⟩ (.int .i64 ((place : Int) + 4 + x))).setCell ⟨w.heap.size + 1 + 1, 2, none⟩ (.int .i64 place)).setCell ⟨w.heap.size + 1 + 1, 3, none⟩ (.string nm)).setCell ⟨w.heap.size + 1 + 1, 4, none⟩ (.string fw)).setCell ⟨w.heap.size + 1 + 1, 5, none⟩ (.int .i64 fa)).setCell ⟨w.heap.size + 1 + 1, 6, none⟩ (.int .i64 0)) ∧
      W9.cell? ⟨w.heap.size + 1 + 1, 0, none⟩ = some (.slice xo len xc) ∧ W9.cell? ⟨w.heap.size + 1 + 1, 1, none⟩ = some (.int .i64 ((place : Int) + 4 + x)) ∧ W9.cell? ⟨w.heap.size + 1 + 1, 2, none⟩ = some (.int .i64 place) ∧ W9.cell? ⟨w.heap.size + 1 + 1, 3, none⟩ = some (.string nm) ∧ W9.cell? ⟨w.heap.size + 1 + 1, 4, none⟩ = some (.string fw) ∧ W9.cell? ⟨w.heap.size + 1 + 1, 5, none⟩ = some (.int .i64 fa) ∧ W9.cell? ⟨w.heap.size + 1 + 1, 6, none⟩ = some (.int .i64 0) ∧ Src W9 (.slice ao x ac) l2 ∧ Fr (fun _ => False) w W9 := by
  have hF : Fr (fun k => k = w.heap.size) w2 ((w2.setCell ⟨w.heap.size, 2, none⟩ (.int .i64 place)).setCell ⟨w.heap.size, 1, none⟩ (.int .i64 ((place : Int) + 4 + x))) := Fr.setCell (S := fun k => k = w.heap.size) (Fr.setCell (S := fun k => k = w.heap.size) (Fr.refl _ _) (.inl rfl) _) (.inl rfl) _
  obtain ⟨⟨q0, q1, q2, q3, q4, q5, q6, qz⟩, hF2⟩ := set7 (.slice xo len xc) (.int .i64 ((place : Int) + 4 + x)) (.int .i64 place) (.string nm) (.string fw) (.int .i64 fa) (.int .i64 0) (hC.fr hF (by show ¬ w.heap.size + 1 + 1 = w.heap.size; omega))
  refine ⟨_, rfl, q0, q1, q2, q3, q4, q5, q6, ?_, ?_⟩
  · exact (hO.1.fr hF (fun g o m c e h => by have h' : g = w.heap.size := h; have := hO.2 g o m c e; omega)).fr hF2 (fun g o m c e h => by have h' : g = w.heap.size + 1 + 1 := h; have := hO.2 g o m c e; omega)
  · exact (hF0.soak hF (fun i e => by have e' : i = w.heap.size := e; omega)).soak hF2 (fun i e => by have e' : i = w.heap.size + 1 + 1 := e; omega)

end Go.Proofs.YtjkkonhhnmjcaaaGreatDoor

namespace Go.Proofs.YtjkkonhhnmjcaaaGreatDoor
open Go.RowKit

/-- The fault of the ref's reader. -/
def ftV (x : Option (ByteArray × Nat × Nat)) : ByteArray × Nat × Nat := match x with
  | none => (⟨#[]⟩, 0, 0)
  | some y => y
/-- A ref's reader that has q. -/
def Q.ref (q : Q) (xo : Option Addr) (xc last : Nat) : Value := rdV xo q.all.length xc q.at_ last q.nm (ftV q.f).1 ((ftV q.f).2.1 : Nat) ((ftV q.f).2.2 : Nat)

/-- The fault that Done tells. -/
def Q.ended (q : Q) : ByteArray × Nat × Nat := if q.f = none ∧ q.place < q.all.length then (q.nm, q.place, 3) else ftV q.f
end Go.Proofs.YtjkkonhhnmjcaaaGreatDoor

namespace Go.Proofs.YtjkkonhhnmjcaaaGreatDoor
open Go.RowKit

/-- The error that tells a fault. -/
def ErrV (w : World) (v : Value) (x : ByteArray × Nat × Nat) (E : Nat → Addr) : Prop :=
  (x.2.2 = 0 ∧ v = .nilIface) ∨ (1 ≤ x.2.2 ∧ x.2.2 ≤ 7 ∧ ∃ fb, v = .iface 90 (.pointer (some ⟨fb, 0, none⟩)) ∧ w.heap[fb]? = some (faultObj x.1 x.2.1 (E x.2.2)))
theorem ErrV.fr {w w' : World} {v : Value} {x : ByteArray × Nat × Nat} {E : Nat → Addr} (h : ErrV w v x E) (hf : Fr (fun _ => False) w w') : ErrV w' v x E := by
  rcases h with h | ⟨h1, h7, fb, rfl, hb⟩
  · exact .inl h
  · have hlt : fb < w.heap.size := by
      rcases Nat.lt_or_ge fb w.heap.size with hx | hx
      · exact hx
      · rw [Array.getElem?_eq_none hx] at hb; cases hb
    exact .inr ⟨h1, h7, fb, rfl, (hf.block fb hlt (fun h => h)).trans hb⟩
/-- The seven cells of the ref's reader, and nothing old has turned. -/
abbrev TS (w0 : World) (g : Nat) (a0 a1 a2 a3 a4 a5 a6 : Value) (w : World) : Prop :=
  w.cell? ⟨g, 0, none⟩ = some a0 ∧ w.cell? ⟨g, 1, none⟩ = some a1 ∧ w.cell? ⟨g, 2, none⟩ = some a2 ∧ w.cell? ⟨g, 3, none⟩ = some a3 ∧ w.cell? ⟨g, 4, none⟩ = some a4 ∧ w.cell? ⟨g, 5, none⟩ = some a5 ∧ w.cell? ⟨g, 6, none⟩ = some a6 ∧ Fr (fun _ => False) w0 w
theorem TS.next {w0 w w' : World} {g : Nat} {a0 a1 a2 a3 a4 a5 a6 : Value} (h : TS w0 g a0 a1 a2 a3 a4 a5 a6 w) (hf : Fr (fun _ => False) w w') : TS w0 g a0 a1 a2 a3 a4 a5 a6 w' := by
  obtain ⟨h0, h1, h2, h3, h4, h5, h6, hF⟩ := h
  have key : ∀ {i : Nat} {v : Value}, w.cell? ⟨g, i, none⟩ = some v → w'.cell? ⟨g, i, none⟩ = some v := fun h => (hf.cell (lt_of_cell h) (fun h => h)).trans h
  exact ⟨key h0, key h1, key h2, key h3, key h4, key h5, key h6, hF.trans hf (fun _ _ h => h)⟩
end Go.Proofs.YtjkkonhhnmjcaaaGreatDoor

namespace Go.Proofs.YtjkkonhhnmjcaaaGreatDoor
open Go.RowKit

/-- A proof: its hashes. -/
def CS.pProof (c : CS) (ps : List (List Nat)) : CS × List (List Nat) := match c with
  | .wr s => (loopW (fun c v => c.pHash n_hash v) ((CS.wr s).pInt n_hashes (4096 : Nat) (lrs (4096 : Nat) []) ps.length).1 (ps.take (min ps.length 4096)), ps)
  | .rd q => loopR (fun c v => c.pHash n_hash v) [] (min ((q.named n_hashes).go 7 (4096 : Nat)).2.1 4096) ((CS.rd q).pInt n_hashes (4096 : Nat) (lrs (4096 : Nat) []) 0).1
set_option maxRecDepth 100000 in
theorem proof_w (s : Wq) (ps : List (List Nat)) (xo : Option Addr) (xc : Nat) (cb b g o : Nat) (F : Nat → Prop) (E : Nat → Addr) (w : World) (h : Cd w cb b F (.wr s) E) (hp : w.cell? ⟨g, o, none⟩ = some (.slice xo ps.length xc)) (hL : Loc w cb F g o) (hps : PcV w xo xc ps F) (hn : ps.length < 9223372036854775808) (hroom : (CS.wr s).room 5000) :
    Calls Tryz.prog 39 #[.pointer (some ⟨cb, 0, none⟩), .pointer (some ⟨g, o, none⟩)] w fun e w' => e = .returned (.tuple #[]) ∧ ∃ F', Cd w' cb b F' ((CS.wr s).pProof ps).1 E ∧ Stp w w' F F' (fun _ _ => False) := by
  have hmf := mf
  have hlp := hL.lt
  have hbx := box1 w (.cells #[.pointer (some ⟨cb, 0, none⟩)] 71)
  have hng : ¬ F w.heap.size := fun hx => by have := h.lt _ hx; omega
  have HH : Hid (∀ wx, Fr (fun _ => False) (w.alloc (.cells #[.pointer (some ⟨cb, 0, none⟩)] 71)) wx → Calls Tryz.prog 69 #[.pointer (some ⟨cb, 0, none⟩), .string n_hashes, .pointer (some ⟨g, o, none⟩), .int .i64 4096, .func (.func 70) #[] #[.pointer (some ⟨w.heap.size, 0, none⟩)], .slice none 0 0] wx fun e w' => e = .returned (.tuple #[]) ∧ (∃ F', Cd w' cb b F' ((CS.wr s).pProof ps).1 E ∧ Stp w w' F F' (fun _ _ => False)) ∧ w'.cell? ⟨w.heap.size, 0, none⟩ = some (.pointer (some ⟨cb, 0, none⟩))) := by
    intro wx hfx
    have hf := hbx.trans hfx (fun _ _ h => h)
    have hcx : wx.cell? ⟨w.heap.size, 0, none⟩ = some (.pointer (some ⟨cb, 0, none⟩)) := (hfx.cell (p := ⟨w.heap.size, 0, none⟩) (by simp) (fun h => h)).trans (by simp)
    refine (list_byt_w s n_hashes 4096 cb b g o w.heap.size F E xo xc ps wx (h.fr0 hf) hn (by decide) ((hf.cell (p := ⟨g, o, none⟩) hlp (fun h => h)).trans hp) (hL.fr0 hf) (hps.stp (Stp.of_fr hf F (fun _ _ => False)) (fun _ _ _ h => h)) hcx hng hroom).mono ?_
    rintro e w1 ⟨rfl, F1, hC1, hs1⟩
    exact ⟨rfl, ⟨F1, hC1, (Stp.of_fr hf F (fun _ _ => False)).trans hs1 (fun _ _ _ h => h)⟩, (hs1.oth w.heap.size 0 (lt_of_cell hcx) hng (fun h => h)).trans hcx⟩
  have hS0 : Fr (fun _ => False) (w.alloc (.cells #[.pointer (some ⟨cb, 0, none⟩)] 71)) (w.alloc (.cells #[.pointer (some ⟨cb, 0, none⟩)] 71)) := Fr.refl _ _
  have hcb : (w.alloc (.cells #[.pointer (some ⟨cb, 0, none⟩)] 71)).cell? ⟨w.heap.size, 0, none⟩ = some (.pointer (some ⟨cb, 0, none⟩)) := by simp
  clear h hL hps hbx hng
  go_enter Tryz.func39, Tryz.ntmps39
  go_wp2_with fail
  go_region_held3 (fun w' => w'.cell? ⟨w.heap.size, 0, none⟩ = some (.pointer (some ⟨cb, 0, none⟩))) (first | assumption | (simp only [World.cell?_drew, World.cell?_drewN]; assumption)) (first
    | (go_at_call 69; refine ((unhide HH) _ (by first | assumption | exact Fr.drew (by assumption))).mono ?_; rintro e w1 ⟨rfl, h1, hc1⟩))
  have H1 := hide h1
  clear h1
  go_wp2_with fail
  go_end0
  exact ⟨rfl, unhide H1⟩
set_option maxRecDepth 100000 in
theorem proof_r (q : Q) (cb b g o : Nat) (F : Nat → Prop) (E : Nat → Addr) (w : World) (h : Cd w cb b F (.rd q) E) (hp : w.cell? ⟨g, o, none⟩ = some (.slice none 0 0)) (hL : Loc w cb F g o) :
    Calls Tryz.prog 39 #[.pointer (some ⟨cb, 0, none⟩), .pointer (some ⟨g, o, none⟩)] w fun e w' => e = .returned (.tuple #[]) ∧ ∃ F', Cd w' cb b F' ((CS.rd q).pProof []).1 E ∧ ∃ x, w'.cell? ⟨g, o, none⟩ = some x ∧ OwP w' w.heap.size x ((CS.rd q).pProof []).2 F' ∧ Stp w w' F F' (fun k j => k = g ∧ j = o) := by
  have hmf := mf
  have hlp := hL.lt
  have hbx := box1 w (.cells #[.pointer (some ⟨cb, 0, none⟩)] 71)
  have hng : ¬ F w.heap.size := fun hx => by have := h.lt _ hx; omega
  have HH : Hid (∀ wx, Fr (fun _ => False) (w.alloc (.cells #[.pointer (some ⟨cb, 0, none⟩)] 71)) wx → Calls Tryz.prog 69 #[.pointer (some ⟨cb, 0, none⟩), .string n_hashes, .pointer (some ⟨g, o, none⟩), .int .i64 4096, .func (.func 70) #[] #[.pointer (some ⟨w.heap.size, 0, none⟩)], .slice none 0 0] wx fun e w' => e = .returned (.tuple #[]) ∧ (∃ F', Cd w' cb b F' ((CS.rd q).pProof []).1 E ∧ ∃ x, w'.cell? ⟨g, o, none⟩ = some x ∧ OwP w' w.heap.size x ((CS.rd q).pProof []).2 F' ∧ Stp w w' F F' (fun k j => k = g ∧ j = o)) ∧ w'.cell? ⟨w.heap.size, 0, none⟩ = some (.pointer (some ⟨cb, 0, none⟩))) := by
    intro wx hfx
    have hf := hbx.trans hfx (fun _ _ h => h)
    have hcx : wx.cell? ⟨w.heap.size, 0, none⟩ = some (.pointer (some ⟨cb, 0, none⟩)) := (hfx.cell (p := ⟨w.heap.size, 0, none⟩) (by simp) (fun h => h)).trans (by simp)
    refine (list_byt_r q n_hashes 4096 cb b g o w.heap.size F E wx (h.fr0 hf) (by decide) ((hf.cell (p := ⟨g, o, none⟩) hlp (fun h => h)).trans hp) (hL.fr0 hf) hcx hng (by omega)).mono ?_
    rintro e w1 ⟨rfl, F1, hC1, x, hx, hO, hs1⟩
    exact ⟨rfl, ⟨F1, hC1, x, hx, hO.base hf.size, (Stp.of_fr hf F _).trans hs1 (fun _ _ _ h => h)⟩, (hs1.oth w.heap.size 0 (lt_of_cell hcx) hng (fun h => by omega)).trans hcx⟩
  have hS0 : Fr (fun _ => False) (w.alloc (.cells #[.pointer (some ⟨cb, 0, none⟩)] 71)) (w.alloc (.cells #[.pointer (some ⟨cb, 0, none⟩)] 71)) := Fr.refl _ _
  have hcb : (w.alloc (.cells #[.pointer (some ⟨cb, 0, none⟩)] 71)).cell? ⟨w.heap.size, 0, none⟩ = some (.pointer (some ⟨cb, 0, none⟩)) := by simp
  clear h hL hbx hng
  go_enter Tryz.func39, Tryz.ntmps39
  go_wp2_with fail
  go_region_held3 (fun w' => w'.cell? ⟨w.heap.size, 0, none⟩ = some (.pointer (some ⟨cb, 0, none⟩))) (first | assumption | (simp only [World.cell?_drew, World.cell?_drewN]; assumption)) (first
    | (go_at_call 69; refine ((unhide HH) _ (by first | assumption | exact Fr.drew (by assumption))).mono ?_; rintro e w1 ⟨rfl, h1, hc1⟩))
  have H1 := hide h1
  clear h1
  go_wp2_with fail
  go_end0
  exact ⟨rfl, unhide H1⟩
theorem CS.pForm_room {c : CS} {n : Nat} (h : c.room (n + 1)) (k : Nat) : (c.pForm k).room n := CS.pU8_room h _ _ _
set_option maxRecDepth 100000 in
theorem whole_Head (c : CS) (size : Nat) (root : List Nat) (x : Value) (cb b g : Nat) (F : Nat → Prop) (E : Nat → Addr) (w : World) (h : Cd w cb b F c E) (hp0 : w.cell? ⟨g, 0, none⟩ = some (.int .u32 (size : Nat))) (hp1 : w.cell? ⟨g, 1, none⟩ = some x) (hB : BVg w x root F g) (hL : ∀ i, Loc w cb F g i) (hsz : size < 4294967296) (hroom : c.room 3) :
    Calls Tryz.prog 25 #[.pointer (some ⟨cb, 0, none⟩), .iface 101 (.pointer (some ⟨g, 0, none⟩))] w fun e w' => e = .returned (.tuple #[]) ∧ ∃ F', Cd w' cb b F' ((c.pForm 4).pHead (size, root)).1 E ∧ w'.cell? ⟨g, 0, none⟩ = some (.int .u32 (((c.pForm 4).pHead (size, root)).2.1 : Nat)) ∧ ∃ x', w'.cell? ⟨g, 1, none⟩ = some x' ∧ BO w w' c x' ((c.pForm 4).pHead (size, root)).2.2 F' g ∧ Stp w w' F F' (cellsAt g 0 2) := by
  have t0 := Tryz.wh_Head
  have t1 := Tryz.wm_Head_Request
  have t2 := Tryz.wm_Head_Answer
  have t3 := Tryz.wm_Head_Event
  have HF := hide (form_any c 4 cb b F E w h (by decide) (by simp only [CS.room] at *; omega))
  have hgl := (hL 0).lt
  have hgF := (hL 0).nF
  have H := hide (And.intro hB hL)
  clear h hB hL
  go_enter Tryz.func25, Tryz.ntmps25
  go_wp2_with fail
  refine (unhide HF).mono ?_
  rintro e w1 ⟨rfl, F1, hC1, hs1⟩
  have HH := hide (head_any (c.pForm 4) size root x cb b g 0 F1 E w1 hC1 ((hs1.oth g 0 hgl hgF (fun h => h)).trans hp0) ((hs1.oth g 1 hgl hgF (fun h => h)).trans hp1) ((unhide H).1.stp hs1 (fun _ _ _ h => h.elim)) (fun i => ((unhide H).2 i).stp hs1) hsz (CS.pForm_room hroom 4))
  have H1 := hide hs1
  clear hC1 hs1
  go_wp2_with fail
  refine (unhide HH).mono ?_
  rintro e w2 ⟨rfl, F2, hC2, hc2, x2, hx2, ho2, hs2⟩
  have H2 := hide (And.intro hC2 (And.intro hc2 (And.intro hx2 (And.intro (ho2.mode (w0 := w) (c := c) (unhide H1).size (by rintro q rfl; exact ⟨_, rfl⟩)) (((unhide H1).mono (fun _ _ _ h => h.elim)).trans hs2 (fun _ _ _ h => h))))))
  clear hC2 hc2 hx2 ho2 hs2
  go_wp2_with fail
  go_end0
  obtain ⟨a1, a2, a3, a4, a5⟩ := unhide H2
  exact ⟨rfl, F2, a1, a2, x2, a3, a4, a5⟩
set_option maxRecDepth 100000 in
theorem whole_Signed (c : CS) (size key : Nat) (root sig : List Nat) (x y : Value) (cb b g : Nat) (F : Nat → Prop) (E : Nat → Addr) (w : World) (h : Cd w cb b F c E) (hp0 : w.cell? ⟨g, 0, none⟩ = some (.int .u32 (size : Nat))) (hp1 : w.cell? ⟨g, 1, none⟩ = some x) (hp2 : w.cell? ⟨g, 2, none⟩ = some (.int .u32 (key : Nat))) (hp3 : w.cell? ⟨g, 3, none⟩ = some y) (hB : BVg w x root F g) (hB2 : BVg w y sig F g) (hL : ∀ i, Loc w cb F g i) (hsz : size < 4294967296) (hkey : key < 4294967296) (hroom : c.room 5) :
    Calls Tryz.prog 25 #[.pointer (some ⟨cb, 0, none⟩), .iface 103 (.pointer (some ⟨g, 0, none⟩))] w fun e w' => e = .returned (.tuple #[]) ∧ ∃ F', Cd w' cb b F' ((c.pForm 5).pSigned ((size, root), key, sig)).1 E ∧ w'.cell? ⟨g, 0, none⟩ = some (.int .u32 (((c.pForm 5).pSigned ((size, root), key, sig)).2.1.1 : Nat)) ∧ w'.cell? ⟨g, 2, none⟩ = some (.int .u32 (((c.pForm 5).pSigned ((size, root), key, sig)).2.2.1 : Nat)) ∧ ∃ x' y', w'.cell? ⟨g, 1, none⟩ = some x' ∧ w'.cell? ⟨g, 3, none⟩ = some y' ∧ BO w w' c x' ((c.pForm 5).pSigned ((size, root), key, sig)).2.1.2 F' g ∧ BO w w' c y' ((c.pForm 5).pSigned ((size, root), key, sig)).2.2.2 F' g ∧ Stp w w' F F' (cellsAt g 0 4) := by
  have t0 := Tryz.wh_Signed
  have t1 := Tryz.wm_Signed_Request
  have t2 := Tryz.wm_Signed_Answer
  have t3 := Tryz.wm_Signed_Event
  have t4 := Tryz.wm_Signed_Head
  have HF := hide (form_any c 5 cb b F E w h (by decide) (by simp only [CS.room] at *; omega))
  have hgl := (hL 0).lt
  have hgF := (hL 0).nF
  have H := hide (And.intro hB (And.intro hB2 hL))
  clear h hB hB2 hL
  go_enter Tryz.func25, Tryz.ntmps25
  go_wp2_with fail
  refine (unhide HF).mono ?_
  rintro e w1 ⟨rfl, F1, hC1, hs1⟩
  have HH := hide (signed_any (c.pForm 5) size key root sig x y cb b g 0 F1 E w1 hC1 ((hs1.oth g 0 hgl hgF (fun h => h)).trans hp0) ((hs1.oth g 1 hgl hgF (fun h => h)).trans hp1) ((hs1.oth g 2 hgl hgF (fun h => h)).trans hp2) ((hs1.oth g 3 hgl hgF (fun h => h)).trans hp3) ((unhide H).1.stp hs1 (fun _ _ _ h => h.elim)) ((unhide H).2.1.stp hs1 (fun _ _ _ h => h.elim)) (fun i => ((unhide H).2.2 i).stp hs1) hsz hkey (CS.pForm_room hroom 5))
  have H1 := hide hs1
  clear hC1 hs1
  go_wp2_with fail
  refine (unhide HH).mono ?_
  rintro e w2 ⟨rfl, F2, hC2, hc2, hd2, x2, y2, hx2, hy2, ho2, hq2, hs2⟩
  have hm : ∀ q, c = .rd q → ∃ q', (c.pForm 5) = .rd q' := by rintro q rfl; exact ⟨_, rfl⟩
  have H2 := hide (And.intro hC2 (And.intro hc2 (And.intro hd2 (And.intro hx2 (And.intro hy2 (And.intro (ho2.mode (w0 := w) (c := c) (unhide H1).size hm) (And.intro (hq2.mode (w0 := w) (c := c) (unhide H1).size hm) (((unhide H1).mono (fun _ _ _ h => h.elim)).trans hs2 (fun _ _ _ h => h)))))))))
  clear hC2 hc2 hd2 hx2 hy2 ho2 hq2 hs2 hm
  go_wp2_with fail
  go_end0
  obtain ⟨a1, a2, a3, a4, a5, a6, a7, a8⟩ := unhide H2
  exact ⟨rfl, F2, a1, a2, a3, x2, y2, a4, a5, a6, a7, a8⟩
set_option maxRecDepth 100000 in
theorem whole_Proof_w (s : Wq) (ps : List (List Nat)) (xo : Option Addr) (xc : Nat) (cb b g : Nat) (F : Nat → Prop) (E : Nat → Addr) (w : World) (h : Cd w cb b F (.wr s) E) (hp : w.cell? ⟨g, 0, none⟩ = some (.slice xo ps.length xc)) (hL : Loc w cb F g 0) (hps : PcV w xo xc ps F) (hn : ps.length < 9223372036854775808) (hroom : (CS.wr s).room 5001) :
    Calls Tryz.prog 25 #[.pointer (some ⟨cb, 0, none⟩), .iface 105 (.pointer (some ⟨g, 0, none⟩))] w fun e w' => e = .returned (.tuple #[]) ∧ ∃ F', Cd w' cb b F' (((CS.wr s).pForm 6).pProof ps).1 E ∧ Stp w w' F F' (fun _ _ => False) := by
  have t0 := Tryz.wh_Proof
  have t1 := Tryz.wm_Proof_Request
  have t2 := Tryz.wm_Proof_Answer
  have t3 := Tryz.wm_Proof_Event
  have t4 := Tryz.wm_Proof_Head
  have t5 := Tryz.wm_Proof_Signed
  have HF := hide (form_any (.wr s) 6 cb b F E w h (by decide) (by simp only [CS.room] at *; omega))
  have hgl := hL.lt
  have hgF := hL.nF
  have H := hide (And.intro hps hL)
  clear h hps hL
  go_enter Tryz.func25, Tryz.ntmps25
  go_wp2_with fail
  refine (unhide HF).mono ?_
  rintro e w1 ⟨rfl, F1, hC1, hs1⟩
  have HH := hide (proof_w _ ps xo xc cb b g 0 F1 E w1 hC1 ((hs1.oth g 0 hgl hgF (fun h => h)).trans hp) ((unhide H).2.stp hs1) ((unhide H).1.stp hs1 (fun _ _ _ h => h)) hn (CS.pForm_room hroom 6))
  have H1 := hide hs1
  clear hC1 hs1
  go_wp2_with fail
  refine (unhide HH).mono ?_
  rintro e w2 ⟨rfl, F2, hC2, hs2⟩
  have H2 := hide (And.intro hC2 ((unhide H1).trans hs2 (fun _ _ _ h => h)))
  clear hC2 hs2
  go_wp2_with fail
  go_end0
  exact ⟨rfl, F2, (unhide H2).1, (unhide H2).2⟩
set_option maxRecDepth 100000 in
theorem whole_Proof_r (q : Q) (cb b g : Nat) (F : Nat → Prop) (E : Nat → Addr) (w : World) (h : Cd w cb b F (.rd q) E) (hp : w.cell? ⟨g, 0, none⟩ = some (.slice none 0 0)) (hL : Loc w cb F g 0) :
    Calls Tryz.prog 25 #[.pointer (some ⟨cb, 0, none⟩), .iface 105 (.pointer (some ⟨g, 0, none⟩))] w fun e w' => e = .returned (.tuple #[]) ∧ ∃ F', Cd w' cb b F' (((CS.rd q).pForm 6).pProof []).1 E ∧ ∃ x, w'.cell? ⟨g, 0, none⟩ = some x ∧ OwP w' w.heap.size x (((CS.rd q).pForm 6).pProof []).2 F' ∧ Stp w w' F F' (fun k j => k = g ∧ j = 0) := by
  have t0 := Tryz.wh_Proof
  have t1 := Tryz.wm_Proof_Request
  have t2 := Tryz.wm_Proof_Answer
  have t3 := Tryz.wm_Proof_Event
  have t4 := Tryz.wm_Proof_Head
  have t5 := Tryz.wm_Proof_Signed
  have HF := hide (form_any (.rd q) 6 cb b F E w h (by decide) (by simp only [CS.room, CS.len]; omega))
  have hgl := hL.lt
  have hgF := hL.nF
  have H := hide hL
  clear h hL
  go_enter Tryz.func25, Tryz.ntmps25
  go_wp2_with fail
  refine (unhide HF).mono ?_
  rintro e w1 ⟨rfl, F1, hC1, hs1⟩
  have HH := hide (proof_r _ cb b g 0 F1 E w1 hC1 ((hs1.oth g 0 hgl hgF (fun h => h)).trans hp) ((unhide H).stp hs1))
  have H1 := hide hs1
  clear hC1 hs1
  go_wp2_with fail
  refine (unhide HH).mono ?_
  rintro e w2 ⟨rfl, F2, hC2, x, hx, hO, hs2⟩
  have H2 := hide (And.intro hC2 (And.intro hx (And.intro (hO.base (unhide H1).size) (((unhide H1).mono (fun _ _ _ h => h.elim)).trans hs2 (fun _ _ _ h => h)))))
  clear hC2 hs2 hx hO
  go_wp2_with fail
  go_end0
  exact ⟨rfl, F2, (unhide H2).1, x, (unhide H2).2.1, (unhide H2).2.2.1, (unhide H2).2.2.2⟩
end Go.Proofs.YtjkkonhhnmjcaaaGreatDoor

namespace Go.Proofs.YtjkkonhhnmjcaaaGreatDoor
open Go.RowKit

theorem CS.pForm_sm (c : CS) (k : Nat) : c.sm (c.pForm k) := CS.pU8_sm _ _ _ _
theorem AnC.stp {w w' : World} {g o : Nat} {v : AnM} {x y : Value} {F F' : Nat → Prop} {P : Nat → Nat → Prop} (h : AnC w g o v x y) (hs : Stp w w' F F' P) (hg : ¬ F g) (hP : ∀ i, i < 7 → ¬ P g (o + i)) : AnC w' g o v x y :=
  ⟨(hs.oth g o (lt_of_cell h.c0) hg (hP 0 (by decide))).trans h.c0, (hs.oth g (o + 1) (lt_of_cell h.c0) hg (hP 1 (by decide))).trans h.c1, (hs.oth g (o + 2) (lt_of_cell h.c0) hg (hP 2 (by decide))).trans h.c2, (hs.oth g (o + 3) (lt_of_cell h.c0) hg (hP 3 (by decide))).trans h.c3, (hs.oth g (o + 4) (lt_of_cell h.c0) hg (hP 4 (by decide))).trans h.c4, (hs.oth g (o + 5) (lt_of_cell h.c0) hg (hP 5 (by decide))).trans h.c5, (hs.oth g (o + 6) (lt_of_cell h.c0) hg (hP 6 (by decide))).trans h.c6⟩
theorem EvC.stp {w w' : World} {g o : Nat} {v : EvM} {x y : Value} {F F' : Nat → Prop} {P : Nat → Nat → Prop} (h : EvC w g o v x y) (hs : Stp w w' F F' P) (hg : ¬ F g) (hP : ∀ i, i < 13 → ¬ P g (o + i)) : EvC w' g o v x y :=
  ⟨(hs.oth g o (lt_of_cell h.c0) hg (hP 0 (by decide))).trans h.c0, h.r.stp hs hg (fun i hi => by have := hP (1 + i) (by omega); rwa [← Nat.add_assoc] at this), (hs.oth g (o + 11) (lt_of_cell h.c0) hg (hP 11 (by decide))).trans h.c11, (hs.oth g (o + 12) (lt_of_cell h.c0) hg (hP 12 (by decide))).trans h.c12⟩
set_option maxRecDepth 100000 in
set_option maxHeartbeats 2000000 in
theorem whole_Request (c : CS) (v : RqM) (x : Value) (cb b g : Nat) (F : Nat → Prop) (E : Nat → Addr) (w : World) (h : Cd w cb b F c E) (hp : RqC w g 0 v x) (hX : FdX w c x v.fs F g) (hL : ∀ i, Loc w cb F g i) (hv : v.ok) (hroom : c.room 221) :
    Calls Tryz.prog 25 #[.pointer (some ⟨cb, 0, none⟩), .iface 78 (.pointer (some ⟨g, 0, none⟩))] w fun e w' => e = .returned (.tuple #[]) ∧ ∃ F' x', Cd w' cb b F' ((c.pForm 1).pRequest v).1 E ∧ RqC w' g 0 { ((c.pForm 1).pRequest v).2 with fs := v.fs } x' ∧ FdO w w' c x x' ((c.pForm 1).pRequest v).2.fs F' ∧ Stp w w' F F' (cellsAt g 0 10) := by
  have t0 := Tryz.wh_Request
  have HF := hide (form_any c 1 cb b F E w h (by decide) (by simp only [CS.room] at *; omega))
  have hgF := (hL 0).nF
  have hM := c.pForm_sm 1
  have H := hide (And.intro hp (And.intro hL hX))
  clear h hp hL hX
  go_enter Tryz.func25, Tryz.ntmps25
  go_wp2_with fail
  refine (unhide HF).mono ?_
  rintro e w1 ⟨rfl, F1, hC1, hs1⟩
  have HH := hide (request_any (c.pForm 1) v x cb b g 0 F1 E w1 hC1 ((unhide H).1.stp hs1 hgF (fun _ _ h => h)) ((unhide H).2.2.stp (c' := c.pForm 1) hs1 (fun _ _ _ h => h.elim) hM.1 hM.2) (fun i => ((unhide H).2.1 i).stp hs1) hv (CS.pForm_room (by simp only [CS.room] at *; omega) 1))
  have H1 := hide hs1
  clear hC1 hs1
  go_wp2_with fail
  refine (unhide HH).mono ?_
  rintro e w2 ⟨rfl, F2, x2, hC2, hr2, ho2, hs2⟩
  have H2 := hide (And.intro hC2 (And.intro (hr2) (And.intro (ho2.of hM (unhide H1).size) (((unhide H1).mono (fun _ _ _ h => h.elim)).trans hs2 (fun _ _ _ h => h)))))
  clear hC2 hr2 ho2 hs2
  go_wp2_with fail
  go_end0
  exact ⟨rfl, F2, x2, unhide H2⟩
set_option maxRecDepth 100000 in
set_option maxHeartbeats 2000000 in
theorem whole_Answer (c : CS) (v : AnM) (x y : Value) (cb b g : Nat) (F : Nat → Prop) (E : Nat → Addr) (w : World) (h : Cd w cb b F c E) (hp : AnC w g 0 v x y) (hX : FdX w c x v.fs F g) (hY : SuX w c y v.hi F g) (hL : ∀ i, Loc w cb F g i) (hv : v.ok) (hroom : c.room 501) :
    Calls Tryz.prog 25 #[.pointer (some ⟨cb, 0, none⟩), .iface 97 (.pointer (some ⟨g, 0, none⟩))] w fun e w' => e = .returned (.tuple #[]) ∧ ∃ F' x' y', Cd w' cb b F' ((c.pForm 2).pAnswer v).1 E ∧ AnC w' g 0 ((c.pForm 2).pAnswer v).2 x' y' ∧ FdO w w' c x x' ((c.pForm 2).pAnswer v).2.fs F' ∧ SuO w w' c y y' ((c.pForm 2).pAnswer v).2.hi F' ∧ Stp w w' F F' (cellsAt g 0 7) := by
  have t0 := Tryz.wh_Answer
  have t1 := Tryz.wm_Answer_Request
  have HF := hide (form_any c 2 cb b F E w h (by decide) (by simp only [CS.room] at *; omega))
  have hgF := (hL 0).nF
  have hM := c.pForm_sm 2
  have H := hide (And.intro hp (And.intro hL (And.intro hX hY)))
  clear h hp hL hX hY
  go_enter Tryz.func25, Tryz.ntmps25
  go_wp2_with fail
  refine (unhide HF).mono ?_
  rintro e w1 ⟨rfl, F1, hC1, hs1⟩
  have HH := hide (answer_any (c.pForm 2) v x y cb b g 0 F1 E w1 hC1 ((unhide H).1.stp hs1 hgF (fun _ _ h => h)) ((unhide H).2.2.1.stp (c' := c.pForm 2) hs1 (fun _ _ _ h => h.elim) hM.1 hM.2) ((unhide H).2.2.2.stp (c' := c.pForm 2) hs1 (fun _ _ _ h => h.elim) hM) (fun i => ((unhide H).2.1 i).stp hs1) hv (CS.pForm_room (by simp only [CS.room] at *; omega) 2))
  have H1 := hide hs1
  clear hC1 hs1
  go_wp2_with fail
  refine (unhide HH).mono ?_
  rintro e w2 ⟨rfl, F2, x2, y2, hC2, hr2, ho2, hq2, hs2⟩
  have H2 := hide (And.intro hC2 (And.intro (hr2) (And.intro (ho2.of hM (unhide H1).size) (And.intro (hq2.of hM (unhide H1).size) (((unhide H1).mono (fun _ _ _ h => h.elim)).trans hs2 (fun _ _ _ h => h))))))
  clear hC2 hr2 ho2 hq2 hs2
  go_wp2_with fail
  go_end0
  exact ⟨rfl, F2, x2, y2, unhide H2⟩
set_option maxRecDepth 100000 in
set_option maxHeartbeats 2000000 in
theorem whole_Event (c : CS) (v : EvM) (x y : Value) (cb b g : Nat) (F : Nat → Prop) (E : Nat → Addr) (w : World) (h : Cd w cb b F c E) (hp : EvC w g 0 v x y) (hX : FdX w c x v.rq.fs F g) (hY : BVg w y v.dg F g) (hL : ∀ i, Loc w cb F g i) (hv : v.ok) (hroom : c.room 231) :
    Calls Tryz.prog 25 #[.pointer (some ⟨cb, 0, none⟩), .iface 99 (.pointer (some ⟨g, 0, none⟩))] w fun e w' => e = .returned (.tuple #[]) ∧ ∃ F' x' y', Cd w' cb b F' ((c.pForm 3).pEvent v).1 E ∧ EvC w' g 0 { ((c.pForm 3).pEvent v).2 with rq := { ((c.pForm 3).pEvent v).2.rq with fs := v.rq.fs } } x' y' ∧ FdO w w' c x x' ((c.pForm 3).pEvent v).2.rq.fs F' ∧ BO w w' c y' ((c.pForm 3).pEvent v).2.dg F' g ∧ Stp w w' F F' (cellsAt g 0 13) := by
  have t0 := Tryz.wh_Event
  have t1 := Tryz.wm_Event_Request
  have t2 := Tryz.wm_Event_Answer
  have HF := hide (form_any c 3 cb b F E w h (by decide) (by simp only [CS.room] at *; omega))
  have hgF := (hL 0).nF
  have hM := c.pForm_sm 3
  have H := hide (And.intro hp (And.intro hL (And.intro hX hY)))
  clear h hp hL hX hY
  go_enter Tryz.func25, Tryz.ntmps25
  go_wp2_with fail
  refine (unhide HF).mono ?_
  rintro e w1 ⟨rfl, F1, hC1, hs1⟩
  have HH := hide (event_any (c.pForm 3) v x y cb b g 0 F1 E w1 hC1 ((unhide H).1.stp hs1 hgF (fun _ _ h => h)) ((unhide H).2.2.1.stp (c' := c.pForm 3) hs1 (fun _ _ _ h => h.elim) hM.1 hM.2) ((unhide H).2.2.2.stp hs1 (fun _ _ _ h => h.elim)) (fun i => ((unhide H).2.1 i).stp hs1) hv (CS.pForm_room (by simp only [CS.room] at *; omega) 3))
  have H1 := hide hs1
  clear hC1 hs1
  go_wp2_with fail
  refine (unhide HH).mono ?_
  rintro e w2 ⟨rfl, F2, x2, y2, hC2, hr2, ho2, hq2, hs2⟩
  have H2 := hide (And.intro hC2 (And.intro (hr2) (And.intro (ho2.of hM (unhide H1).size) (And.intro (hq2.mode (w0 := w) (c := c) (unhide H1).size (by rintro q rfl; exact ⟨_, rfl⟩)) (((unhide H1).mono (fun _ _ _ h => h.elim)).trans hs2 (fun _ _ _ h => h))))))
  clear hC2 hr2 ho2 hq2 hs2
  go_wp2_with fail
  go_end0
  exact ⟨rfl, F2, x2, y2, unhide H2⟩
end Go.Proofs.YtjkkonhhnmjcaaaGreatDoor

namespace Go.Proofs.YtjkkonhhnmjcaaaGreatDoor
open Go.RowKit

/-- What a writer tells. -/
def Wq.out (s : Wq) : List Nat := if s.f = none then s.l else []
theorem wDone_q (s : Wq) (b : Nat) (F : Nat → Prop) (E : Nat → Addr) (w : World) (h : W w b F (s.wst E)) (hok : s.ok) (hl : s.l.length ≤ 140737488355328) :
    Calls Tryz.prog 26 #[.pointer (some ⟨b, 0, none⟩)] w fun e w' => ∃ v err, e = .returned (.tuple #[v, err]) ∧ w'.ownsRow w.heap.size 5 1 v s.out.length (cellsOf s.out) ∧ ErrV w' err (ftV s.f) E ∧ Fr (fun _ => False) w w' := by
  obtain ⟨nm, l, f⟩ := s
  cases f with
  | none =>
    refine (wDone_ok b F _ w h rfl hl).mono ?_
    rintro e w' ⟨v, rfl, hown, hf⟩
    exact ⟨v, .nilIface, rfl, hown, .inl ⟨rfl, rfl⟩, hf⟩
  | some y =>
    refine (wDone_bad b F _ y.1 y.2.1 (E y.2.2) w h rfl).mono ?_
    rintro e w' ⟨rfl, rfl⟩
    exact ⟨.slice none 0 0, _, rfl, World.ownsRow_nil _ _ _ _, .inr ⟨(hok y rfl).1, (hok y rfl).2, _, rfl, heap_alloc_new _ _⟩, box1 w _⟩
set_option maxRecDepth 100000 in
/-- put. -/
theorem put_Request (vs : Array Value) (s' : Wq) (E : Nat → Addr) (w : World) (hg : G6 w E) (hw : 6 ≤ w.heap.size)
    (hwhole : ∀ w1 cb b F, Cd w1 cb b F (.wr ⟨ByteArray.empty, [], none⟩) E → (∀ (i : Nat) v, vs[i]? = some v → w1.cell? ⟨w.heap.size, i, none⟩ = some v) → (∀ i, Loc w1 cb F w.heap.size i) → (∀ k, F k → w.heap.size < k) → Fr (fun _ => False) w w1 → Calls Tryz.prog 25 #[.pointer (some ⟨cb, 0, none⟩), .iface 78 (.pointer (some ⟨w.heap.size, 0, none⟩))] w1 fun e w' => e = .returned (.tuple #[]) ∧ ∃ F', Cd w' cb b F' (.wr s') E ∧ Stp w1 w' F F' (fun k _ => k = w.heap.size)) (hlen : s'.l.length ≤ 140737488355328) :
    Calls Tryz.prog 15 #[.agg vs] w fun e w' => ∃ v err, e = .returned (.tuple #[v, err]) ∧ w'.ownsRow w.heap.size 5 1 v s'.out.length (cellsOf s'.out) ∧ ErrV w' err (ftV s'.f) E ∧ Fr (fun _ => False) w w' := by
  have hbx := box1 w (.cells vs 27)
  have HN := hide (newWriter_any (w.alloc (.cells vs 27)) (by simp; omega))
  have H := hide (And.intro hg (And.intro hwhole hbx))
  clear hg hwhole hbx
  go_enter Tryz.func15, Tryz.ntmps15
  go_wp2_with fail
  refine (unhide HN).mono ?_
  rintro e w1 ⟨rfl, hW1, hf1⟩
  have H1 := hide (And.intro hW1 hf1)
  clear hW1 hf1
  go_wp2_with fail
  obtain ⟨W2, hW2⟩ : ∃ W2, w1.alloc (.cells #[.pointer (some ⟨w.heap.size + 1, 0, none⟩), .pointer none] 76) = W2 := ⟨_, rfl⟩
  have hf12 : Fr (fun _ => False) w1 W2 := by rw [← hW2]; exact box1 _ _
  have hs0 : (w.alloc (.cells vs 27)).heap.size = w.heap.size + 1 := by simp
  have hf02 : Fr (fun _ => False) w W2 := ((unhide H).2.2.trans (unhide H1).2 (fun _ _ h => h)).trans hf12 (fun _ _ h => h)
  have hW1 := (unhide H1).1
  rw [hs0] at hW1
  have hs1 := (unhide H1).2.size
  have hlt1 := hW1.lt (w.heap.size + 1) rfl
  have hsz2 : W2.heap.size = w1.heap.size + 1 := by rw [← hW2]; simp
  have hC2 : Cd W2 w1.heap.size (w.heap.size + 1) (fun k => k = w.heap.size + 1) (.wr ⟨ByteArray.empty, [], none⟩) E := by
    refine ⟨(unhide H).1.fr hf02 (fun _ h => h.elim), fun hx => by omega, fun k hk => by omega, fun k hk => by omega, by omega, ?_, ?_, W.frame hW1 hf12 (fun _ _ h => h), fun y hy => by cases hy⟩
    · rw [← hW2, World.cell?_alloc_at _ _ _ _ rfl]; rfl
    · rw [← hW2, World.cell?_alloc_at _ _ _ _ rfl]; rfl
  have hcs : ∀ (i : Nat) v, vs[i]? = some v → W2.cell? ⟨w.heap.size, i, none⟩ = some v := fun i v hv => by
    refine (((unhide H1).2.trans hf12 (fun _ _ h => h)).cell (p := ⟨w.heap.size, i, none⟩) (by simp) (fun h => h)).trans ?_
    rw [World.cell?_alloc_at _ _ _ _ rfl]; exact hv
  have hLo : ∀ i, Loc W2 w1.heap.size (fun k => k = w.heap.size + 1) w.heap.size i := fun i =>
    ⟨(((unhide H1).2.trans hf12 (fun _ _ h => h)).frozen (p := ⟨w.heap.size, i, none⟩) (by simp) (fun h => h)).trans (by simp), by omega, by omega, by omega, by omega⟩
  have HW := hide ((unhide H).2.1 W2 w1.heap.size (w.heap.size + 1) _ hC2 hcs hLo (fun k hk => by omega) hf02)
  have hx2 := Nat.le_of_lt hlt1
  have H2 := hide (And.intro hf02 (And.intro hsz2 hlt1))
  clear hC2 hf02 hLo hsz2 hcs hf12 hW1 hs1 hs0 hlt1 hx2
  rw [hW2]
  clear hW2
  refine (unhide HW).mono ?_
  rintro e w3 ⟨rfl, F3, hC3, hs3⟩
  have h0 : w3.cell? ⟨w1.heap.size, 0, none⟩ = some (.pointer (some ⟨w.heap.size + 1, 0, none⟩)) := hC3.c0
  have hl0 := lt_of_cell h0
  have hf03 : Fr (fun _ => False) w w3 := ((unhide H2).1.mono (fun _ _ h => h)).trans hs3.fr (fun k hk hx => by rcases hx with hx | ⟨_, hx⟩ <;> omega)
  have HD := hide (wDone_q s' (w.heap.size + 1) F3 E w3 hC3.st hC3.fok hlen)
  have H3 := hide hf03
  clear hC3 hs3 hf03
  go_wp2_with fail
  refine (unhide HD).mono ?_
  rintro e w4 ⟨v, err, rfl, hown, hE, hf4⟩
  have H4 := hide (And.intro (ownsRow_base hown (unhide H3).size) (And.intro hE ((unhide H3).trans hf4 (fun _ _ h => h))))
  clear hown hE hf4
  go_wp2_with fail
  go_ret2
  exact ⟨v, err, rfl, (unhide H4).1, (unhide H4).2.1, (unhide H4).2.2⟩
end Go.Proofs.YtjkkonhhnmjcaaaGreatDoor

namespace Go.Proofs.YtjkkonhhnmjcaaaGreatDoor
open Go.RowKit

/-- A reader at a thing's end. -/
def Q.fin (q : Q) : ByteArray × Nat × Nat := (q.named n_end).ended
end Go.Proofs.YtjkkonhhnmjcaaaGreatDoor

namespace Go.Proofs.YtjkkonhhnmjcaaaGreatDoor
open Go.RowKit

set_option maxRecDepth 100000 in
theorem PutRequest_go (v0 v1 v2 v3 v4 v5 v6 v7 v8 v9 : Value) (w : World) (Q : Ending → World → Prop) (h : Calls Tryz.prog 15 #[.agg #[v0, v1, v2, v3, v4, v5, v6, v7, v8, v9]] (w.alloc (.cells #[v0, v1, v2, v3, v4, v5, v6, v7, v8, v9] 27)) fun e w' => (∃ v err, e = .returned (.tuple #[v, err])) ∧ Q e w') : Calls Tryz.prog 7 #[.agg #[v0, v1, v2, v3, v4, v5, v6, v7, v8, v9]] w fun e w' => (∃ v err, e = .returned (.tuple #[v, err])) ∧ Q e w' := by
  have H := hide h
  clear h
  go_enter Tryz.func7, Tryz.ntmps7
  go_wp2_with fail
  refine (unhide H).mono ?_
  rintro e w' ⟨⟨v, err, rfl⟩, hr⟩
  have HR := hide hr
  clear hr
  go_wp2_with fail
  go_ret2
  exact ⟨⟨v, err, rfl⟩, unhide HR⟩
end Go.Proofs.YtjkkonhhnmjcaaaGreatDoor

namespace Go.Proofs.YtjkkonhhnmjcaaaGreatDoor
open Go.RowKit

def CS.wq : CS → Wq
  | .wr s => s
  | .rd _ => ⟨ByteArray.empty, [], none⟩
def CS.rq : CS → Q
  | .wr _ => ⟨ByteArray.empty, [], 0, 0, none⟩
  | .rd q => q
/-- A new writer, a new reader. -/
def cw0 : CS := .wr ⟨ByteArray.empty, [], none⟩
def cr0 (l : List Nat) : CS := .rd ⟨ByteArray.empty, l, 0, 0, none⟩
theorem cw0_room (n : Nat) (h : n ≤ 1000000) : cw0.room n := by simp only [cw0, CS.room, CS.len, List.length_nil]; omega
theorem room_len {s : Wq} {n : Nat} (h : (CS.wr s).room n) : s.l.length ≤ 140737488355328 := by simp only [CS.room, CS.len] at h; omega
/-- Bytes that come in: they lie in memory that was there. -/
structure SlI (w : World) (x : Value) (l : List Nat) : Prop where
  src : Src w x l
  lt : ∀ g o m c, x = .slice (some ⟨g, o, none⟩) m c → g < w.heap.size
  len : l.length < 9223372036854775808
theorem SlI.bvg {w w1 : World} {x : Value} {l : List Nat} {F : Nat → Prop} (h : SlI w x l) (hf : Fr (fun _ => False) w w1) (hF : ∀ k, F k → w.heap.size ≤ k) (g : Nat) (hg : w.heap.size ≤ g) : BVg w1 x l F g :=
  ⟨⟨h.src.fr hf (fun _ _ _ _ _ h => h), fun k o m c e => ⟨Nat.lt_of_lt_of_le (h.lt k o m c e) hf.size, fun hx => by have := hF k hx; have := h.lt k o m c e; omega⟩⟩, fun k o m c e => by have := h.lt k o m c e; omega, h.len⟩
def headW (size : Nat) (root : List Nat) : Wq := ((cw0.pForm 4).pHead (size, root)).1.wq
def headR (l : List Nat) : CS × Nat × List Nat := ((cr0 l).pForm 4).pHead (0, [])
def signedW (v : (Nat × List Nat) × Nat × List Nat) : Wq := ((cw0.pForm 5).pSigned v).1.wq
def signedR (l : List Nat) : CS × (Nat × List Nat) × Nat × List Nat := ((cr0 l).pForm 5).pSigned ((0, []), 0, [])
def proofW (ps : List (List Nat)) : Wq := ((cw0.pForm 6).pProof ps).1.wq
def proofR (l : List Nat) : CS × List (List Nat) := ((cr0 l).pForm 6).pProof []
theorem SlI.fr0 {w w1 : World} {x : Value} {l : List Nat} (h : SlI w x l) (hf : Fr (fun _ => False) w w1) : SlI w1 x l :=
  ⟨h.src.fr hf (fun _ _ _ _ _ h => h), fun k o m c e => Nat.lt_of_lt_of_le (h.lt k o m c e) hf.size, h.len⟩
/-- What PutX tells. -/
def PutRes (w w' : World) (e : Ending) (s : Wq) (E : Nat → Addr) : Prop := ∃ v err, e = .returned (.tuple #[v, err]) ∧ w'.ownsRow w.heap.size 5 1 v s.out.length (cellsOf s.out) ∧ ErrV w' err (ftV s.f) E ∧ Fr (fun _ => False) w w'
theorem PutRes.box {w w' : World} {e : Ending} {s : Wq} {E : Nat → Addr} {vs : Array Value} {t : TypeId} (h : PutRes (w.alloc (.cells vs t)) w' e s E) : (∃ v err, e = .returned (.tuple #[v, err])) ∧ PutRes w w' e s E := by
  obtain ⟨v, err, rfl, h1, h2, h3⟩ := h
  have hb := box1 w (.cells vs t)
  exact ⟨⟨v, err, rfl⟩, v, err, rfl, ownsRow_base h1 hb.size, h2, hb.trans h3 (fun _ _ h => h)⟩
theorem loopW_wr (ps : List (List Nat)) : ∀ (s : Wq), ∃ s', loopW (fun c v => c.pHash n_hash v) (.wr s) ps = .wr s' := by
  induction ps with
  | nil => intro s; exact ⟨s, rfl⟩
  | cons p ps ih => intro s; exact ih _
theorem loopW_room (ps : List (List Nat)) : ∀ {c : CS} {n : Nat}, c.room (n + ps.length) → (loopW (fun c v => c.pHash n_hash v) c ps).room n := by
  induction ps with
  | nil => intro c n h; exact h
  | cons p ps ih => intro c n h; exact ih (CS.pHash_room (n := n + ps.length) (by simpa [Nat.add_assoc] using h) _ _)
theorem proofW_eq (ps : List (List Nat)) : ((cw0.pForm 6).pProof ps).1 = .wr (proofW ps) := by
  obtain ⟨s, hs⟩ : ∃ s, ((cw0.pForm 6).pProof ps).1 = .wr s := loopW_wr _ _
  unfold proofW
  rw [hs]
  rfl
/-- Slices of bytes that come in. -/
structure PcI (w : World) (xo : Option Addr) (xc : Nat) (ps : List (List Nat)) : Prop where
  cap : ps.length ≤ xc
  len : ps.length < 9223372036854775808
  el : ∀ (j : Nat) p, ps[j]? = some p → ∃ g o x, xo = some ⟨g, o, none⟩ ∧ w.cell? ⟨g, o + j, none⟩ = some x ∧ SlI w x p
theorem PcI.pcv {w w1 : World} {xo : Option Addr} {xc : Nat} {ps : List (List Nat)} {F : Nat → Prop} (h : PcI w xo xc ps) (hf : Fr (fun _ => False) w w1) (hF : ∀ k, F k → w.heap.size ≤ k) : PcV w1 xo xc ps F := by
  refine ⟨h.cap, fun j p hp => ?_⟩
  obtain ⟨g, o, x, h1, h2, h3⟩ := h.el j p hp
  have hlt := lt_of_cell h2
  exact ⟨g, o, x, h1, fun hx => by have := hF g hx; simp only at hlt; omega, (hf.cell (p := ⟨g, o + j, none⟩) hlt (fun h => h)).trans h2, (h3.bvg hf hF w.heap.size (Nat.le_refl _)).bv, h3.len⟩
theorem PcI.fr0 {w w1 : World} {xo : Option Addr} {xc : Nat} {ps : List (List Nat)} (h : PcI w xo xc ps) (hf : Fr (fun _ => False) w w1) : PcI w1 xo xc ps := by
  refine ⟨h.cap, h.len, fun j p hp => ?_⟩
  obtain ⟨g, o, x, h1, h2, h3⟩ := h.el j p hp
  exact ⟨g, o, x, h1, (hf.cell (p := ⟨g, o + j, none⟩) (lt_of_cell h2) (fun h => h)).trans h2, h3.fr0 hf⟩
end Go.Proofs.YtjkkonhhnmjcaaaGreatDoor

namespace Go.Proofs.YtjkkonhhnmjcaaaGreatDoor
open Go.RowKit

theorem sm_wq {s : Wq} {c : CS} (h : (CS.wr s).sm c) : c = .wr c.wq := by
  cases c with
  | wr s' => rfl
  | rd q => obtain ⟨_, e⟩ := h.2 q rfl; cases e
theorem sm_rq {q : Q} {c : CS} (h : (CS.rd q).sm c) : c = .rd c.rq := by
  cases c with
  | wr s' => obtain ⟨_, e⟩ := h.1 s' rfl; cases e
  | rd q => rfl
theorem loopW_sm {α : Type} (each : CS → α → CS × α) (he : ∀ (c : CS) (v : α), c.sm (each c v).1) : ∀ (xs : List α) (c : CS), c.sm (loopW each c xs)
  | [], c => CS.sm_refl c
  | x :: xs, c => CS.sm_trans (he c x) (loopW_sm each he xs _)
theorem loopR_sm {α : Type} (each : CS → α → CS × α) (z : α) (he : ∀ (c : CS) (v : α), c.sm (each c v).1) (c : CS) : ∀ n, c.sm (loopR each z n c).1
  | 0 => CS.sm_refl c
  | n + 1 => CS.sm_trans (loopR_sm each z he c n) (he _ _)
theorem loopW_room4 : ∀ (xs : List SuM) {c : CS} {n : Nat}, c.room (n + 4 * xs.length) → (loopW (fun c v => c.pSummary v) c xs).room n
  | [], c, n, h => by simpa [loopW] using h
  | x :: xs, c, n, h => loopW_room4 xs (CS.pSummary_room (n := n + 4 * xs.length) (CS.room_le h (by simp; omega)) x)
theorem CS.pInt_sm (c : CS) (nm : ByteArray) (m : Int) (rs : List (Int → Nat)) (v : Nat) : c.sm (c.pInt nm m rs v).1 := by
  cases c with
  | wr s => exact CS.sm_wr _ _
  | rd q => exact CS.sm_rd _ _
theorem CS.pHist_sm (c : CS) (l : List SuM) : c.sm (c.pHist l).1 := by
  cases c with
  | wr s => exact CS.sm_trans (CS.pInt_sm _ _ _ _ _) (loopW_sm _ CS.pSummary_sm _ _)
  | rd q => exact CS.sm_trans (CS.pInt_sm _ _ _ _ _) (loopR_sm _ _ CS.pSummary_sm _ _)
theorem CS.pHist_room (s : Wq) {n : Nat} (h : (CS.wr s).room (n + 257)) (l : List SuM) : ((CS.wr s).pHist l).1.room n := by
  have h1 := CS.pInt_room (c := .wr s) (n := n + 256) h n_history 64 (lrs 64 []) l.length
  exact loopW_room4 _ (CS.room_le h1 (by simp; omega))
theorem CS.pAnswer_sm (c : CS) (v : AnM) : c.sm (c.pAnswer v).1 := CS.sm_trans (CS.sm_trans (CS.sm_trans (CS.sm_trans (CS.sm_trans (c.pId_sm _) (CS.pU8_sm _ _ _ _)) (CS.pU32_sm _ _ _ _)) (CS.pU32_sm _ _ _ _)) (CS.pFields_sm _ _ _ _)) (CS.pHist_sm _ _)
theorem CS.pHash_sm2 (c : CS) (nm : ByteArray) (v : List Nat) : c.sm (c.pHash nm v).1 := by
  cases c with
  | wr s => exact CS.sm_wr _ _
  | rd q => exact CS.sm_rd _ _
theorem CS.pEvent_sm (c : CS) (v : EvM) : c.sm (c.pEvent v).1 := CS.sm_trans (CS.sm_trans (CS.sm_trans (CS.pU32_sm _ _ _ _) (CS.pRequest_sm _ _)) (CS.pU8_sm _ _ _ _)) (CS.pHash_sm2 _ _ _)
def requestW (v : RqM) : Wq := ((cw0.pForm 1).pRequest v).1.wq
def answerW (v : AnM) : Wq := ((cw0.pForm 2).pAnswer v).1.wq
def eventW (v : EvM) : Wq := ((cw0.pForm 3).pEvent v).1.wq
def requestR (l : List Nat) : CS × RqM := ((cr0 l).pForm 1).pRequest ⟨0, 0, 0, 0, 0, 0, 0, 0, [], ⟨#[]⟩⟩
def answerR (l : List Nat) : CS × AnM := ((cr0 l).pForm 2).pAnswer ⟨0, 0, 0, 0, 0, [], []⟩
def eventR (l : List Nat) : CS × EvM := ((cr0 l).pForm 3).pEvent ⟨0, ⟨0, 0, 0, 0, 0, 0, 0, 0, [], ⟨#[]⟩⟩, 0, []⟩
theorem requestW_eq (v : RqM) : ((cw0.pForm 1).pRequest v).1 = .wr (requestW v) := sm_wq (CS.sm_trans (CS.pForm_sm cw0 1) (CS.pRequest_sm _ _))
theorem answerW_eq (v : AnM) : ((cw0.pForm 2).pAnswer v).1 = .wr (answerW v) := sm_wq (CS.sm_trans (CS.pForm_sm cw0 2) (CS.pAnswer_sm _ _))
theorem eventW_eq (v : EvM) : ((cw0.pForm 3).pEvent v).1 = .wr (eventW v) := sm_wq (CS.sm_trans (CS.pForm_sm cw0 3) (CS.pEvent_sm _ _))
theorem requestR_eq (l : List Nat) : (requestR l).1 = .rd (requestR l).1.rq := sm_rq (CS.sm_trans (CS.pForm_sm (cr0 l) 1) (CS.pRequest_sm _ _))
theorem answerR_eq (l : List Nat) : (answerR l).1 = .rd (answerR l).1.rq := sm_rq (CS.sm_trans (CS.pForm_sm (cr0 l) 2) (CS.pAnswer_sm _ _))
theorem eventR_eq (l : List Nat) : (eventR l).1 = .rd (eventR l).1.rq := sm_rq (CS.sm_trans (CS.pForm_sm (cr0 l) 3) (CS.pEvent_sm _ _))
theorem requestW_room (v : RqM) : (CS.wr (requestW v)).room 0 := by
  rw [← requestW_eq]
  exact CS.pRequest_room (n := 0) (CS.pForm_room (cw0_room 141 (by decide)) 1) v
theorem answerW_room (v : AnM) : (CS.wr (answerW v)).room 0 := by
  rw [← answerW_eq]
  have R0 : (cw0.pForm 2).room 500 := CS.pForm_room (cw0_room 501 (by decide)) 2
  have R1 : ((cw0.pForm 2).a1 v).1.room 498 := CS.pId_room R0 _
  have R2 : ((cw0.pForm 2).a2 v).1.room 497 := CS.pU8_room R1 _ _ _
  have R3 : ((cw0.pForm 2).a3 v).1.room 496 := CS.pU32_room R2 _ _ _
  have R4 : ((cw0.pForm 2).a4 v).1.room 495 := CS.pU32_room R3 _ _ _
  have R5 : ((cw0.pForm 2).a5 v).1.room 366 := CS.pFields_room R4 _ _ _
  have M5 : (cw0.pForm 2).sm ((cw0.pForm 2).a5 v).1 := CS.sm_trans (CS.sm_trans (CS.sm_trans (CS.sm_trans (CS.pId_sm _ _) (CS.pU8_sm _ _ _ _)) (CS.pU32_sm _ _ _ _)) (CS.pU32_sm _ _ _ _)) (CS.pFields_sm _ _ _ _)
  have e := sm_wq (CS.sm_trans (CS.pForm_sm cw0 2) M5)
  show (((cw0.pForm 2).a5 v).1.pHist v.hi).1.room 0
  rw [e] at R5 ⊢
  exact CS.pHist_room _ (CS.room_le R5 (by decide)) _
theorem eventW_room (v : EvM) : (CS.wr (eventW v)).room 0 := by
  rw [← eventW_eq]
  exact CS.pHash_room (CS.pU8_room (CS.pRequest_room (CS.pU32_room (CS.pForm_room (cw0_room 144 (by decide)) 3) _ _ _) _) _ _ _) _ _
/-- Fields that come in; summaries that come in. -/
structure FdI (w : World) (x : Value) (l : List Fld) : Prop where
  v : ∃ xo xc, x = .slice xo l.length xc ∧ FdV w xo xc l (fun _ => False)
  len : l.length < 9223372036854775808
structure SuI (w : World) (x : Value) (l : List SuM) : Prop where
  v : ∃ xo xc, x = .slice xo l.length xc ∧ SuV w xo xc l (fun _ => False)
  len : l.length < 9223372036854775808
theorem FdI.fr0 {w w1 : World} {x : Value} {l : List Fld} (h : FdI w x l) (hf : Fr (fun _ => False) w w1) : FdI w1 x l := by
  obtain ⟨⟨xo, xc, e, hv⟩, hn⟩ := h
  exact ⟨⟨xo, xc, e, hv.stp (Stp.of_fr hf _ (fun _ _ => False)) (fun _ _ _ _ _ h => h)⟩, hn⟩
theorem SuI.fr0 {w w1 : World} {x : Value} {l : List SuM} (h : SuI w x l) (hf : Fr (fun _ => False) w w1) : SuI w1 x l := by
  obtain ⟨⟨xo, xc, e, hv⟩, hn⟩ := h
  exact ⟨⟨xo, xc, e, hv.stp (Stp.of_fr hf _ (fun _ _ => False)) (fun _ _ _ _ _ h => h)⟩, hn⟩
theorem FdI.fdx {w w1 : World} {x : Value} {l : List Fld} {F : Nat → Prop} {s : Wq} (h : FdI w x l) (hf : Fr (fun _ => False) w w1) (hF : ∀ k, F k → w.heap.size ≤ k) (g : Nat) (hg : w.heap.size ≤ g) : FdX w1 (.wr s) x l F g := by
  obtain ⟨⟨xo, xc, e, hv⟩, hn⟩ := h
  have hv1 := hv.stp (Stp.of_fr hf _ (fun _ _ => False)) (fun _ _ _ _ _ h => h)
  refine ⟨fun _ _ => ⟨xo, xc, e, ⟨hv.cap, fun j f hj => ?_⟩, fun g' o' e' hl => ?_⟩, fun q e => (by cases e), hn⟩
  · obtain ⟨h0, g', o, h1, _, h3⟩ := hv.el j f hj
    obtain ⟨_, g2, o2, h1', _, h3'⟩ := hv1.el j f hj
    obtain ⟨rfl, rfl⟩ : g2 = g' ∧ o2 = o := by rw [h1] at h1'; injection h1' with e1; injection e1 with e2 e3; exact ⟨e2.symm, e3.symm⟩
    have hlt : g2 < w.heap.size := lt_of_cell h3.1
    exact ⟨h0, g2, o2, h1, fun hx => by have := hF g2 hx; omega, h3'⟩
  · obtain ⟨f, hj⟩ : ∃ f, l[0]? = some f := by cases l with
      | nil => exact absurd rfl hl
      | cons a t => exact ⟨a, rfl⟩
    obtain ⟨_, g2, o2, h1, _, h3⟩ := hv.el 0 f hj
    rw [e'] at h1
    injection h1 with e1
    injection e1 with e2 e3
    have hlt : g2 < w.heap.size := lt_of_cell h3.1
    omega
theorem SuI.sux {w w1 : World} {x : Value} {l : List SuM} {F : Nat → Prop} {s : Wq} (h : SuI w x l) (hf : Fr (fun _ => False) w w1) (hF : ∀ k, F k → w.heap.size ≤ k) (g : Nat) (hg : w.heap.size ≤ g) : SuX w1 (.wr s) x l F g := by
  obtain ⟨⟨xo, xc, e, hv⟩, hn⟩ := h
  have hv1 := hv.stp (Stp.of_fr hf _ (fun _ _ => False)) (fun _ _ _ _ _ h => h)
  refine ⟨fun _ _ => ⟨xo, xc, e, ⟨hv.cap, fun j f hj => ?_⟩, fun g' o' e' hl => ?_⟩, fun q e => (by cases e), hn⟩
  · obtain ⟨h0, g', o, h1, _, h3⟩ := hv.el j f hj
    obtain ⟨_, g2, o2, h1', _, h3'⟩ := hv1.el j f hj
    obtain ⟨rfl, rfl⟩ : g2 = g' ∧ o2 = o := by rw [h1] at h1'; injection h1' with e1; injection e1 with e2 e3; exact ⟨e2.symm, e3.symm⟩
    have hlt : g2 < w.heap.size := lt_of_cell h3.1
    exact ⟨h0, g2, o2, h1, fun hx => by have := hF g2 hx; omega, h3'⟩
  · obtain ⟨f, hj⟩ : ∃ f, l[0]? = some f := by cases l with
      | nil => exact absurd rfl hl
      | cons a t => exact ⟨a, rfl⟩
    obtain ⟨_, g2, o2, h1, _, h3⟩ := hv.el 0 f hj
    rw [e'] at h1
    injection h1 with e1
    injection e1 with e2 e3
    have hlt : g2 < w.heap.size := lt_of_cell h3.1
    omega
/-- A request's, an answer's, an event's values. -/
def RqM.vals (v : RqM) (x : Value) : Array Value := #[.int .u32 (v.cl : Nat), .int .u32 (v.nu : Nat), .int .u32 (v.ac : Nat), .int .u8 (v.op : Nat), .int .u32 (v.re : Nat), .int .u32 (v.ve : Nat), .int .u32 (v.wa : Nat), .int .u32 (v.ow : Nat), x, .string v.rs]
def AnM.vals (v : AnM) (x y : Value) : Array Value := #[.int .u32 (v.cl : Nat), .int .u32 (v.nu : Nat), .int .u8 (v.co : Nat), .int .u32 (v.re : Nat), .int .u32 (v.ve : Nat), x, y]
def EvM.vals (v : EvM) (x y : Value) : Array Value := #[.int .u32 (v.pl : Nat), .int .u32 (v.rq.cl : Nat), .int .u32 (v.rq.nu : Nat), .int .u32 (v.rq.ac : Nat), .int .u8 (v.rq.op : Nat), .int .u32 (v.rq.re : Nat), .int .u32 (v.rq.ve : Nat), .int .u32 (v.rq.wa : Nat), .int .u32 (v.rq.ow : Nat), x, .string v.rq.rs, .int .u8 (v.co : Nat), y]
set_option maxRecDepth 100000 in
/-- PutRequest. -/
theorem putRequest (v : RqM) (x : Value) (E : Nat → Addr) (w : World) (hg : G6 w E) (hw : 6 ≤ w.heap.size) (hx : FdI w x v.fs) (hv : v.ok) :
    Calls Tryz.prog 7 #[.agg (v.vals x)] w fun e w' => PutRes w w' e (requestW v) E := by
  have hr := requestW_room v
  obtain ⟨wb, hwb⟩ : ∃ wb, w.alloc (.cells (v.vals x) 27) = wb := ⟨_, rfl⟩
  have hbx : Fr (fun _ => False) w wb := by rw [← hwb]; exact box1 _ _
  have hx' := hx.fr0 hbx
  have hp := put_Request (v.vals x) (requestW v) E wb (hg.fr hbx (fun _ h => h.elim)) (by have := hbx.size; omega) (fun w1 cb b F hC hcs hL hF hf => by
    have hF' : ∀ k, F k → wb.heap.size ≤ k := fun k hk => by have := hF k hk; omega
    refine (whole_Request cw0 v x cb b wb.heap.size F E w1 hC ⟨hcs 0 _ rfl, hcs 1 _ rfl, hcs 2 _ rfl, hcs 3 _ rfl, hcs 4 _ rfl, hcs 5 _ rfl, hcs 6 _ rfl, hcs 7 _ rfl, hcs 8 _ rfl, hcs 9 _ rfl⟩ (hx'.fdx hf hF' _ (Nat.le_refl _)) hL hv (cw0_room 221 (by decide))).mono ?_
    rintro e w' ⟨rfl, F', _, hC', _, _, hs⟩
    exact ⟨rfl, F', by rw [← requestW_eq]; exact hC', hs.mono (fun k j _ h => h.1)⟩) (room_len hr)
  refine (PutRequest_go _ _ _ _ _ _ _ _ _ _ w (fun e w' => PutRes w w' e (requestW v) E) ?_).mono (fun e w' h => h.2)
  show Calls Tryz.prog 15 #[.agg (v.vals x)] (w.alloc (.cells (v.vals x) 27)) _
  rw [hwb]
  exact hp.mono (fun e w' h => by rw [← hwb] at h; exact PutRes.box h)
end Go.Proofs.YtjkkonhhnmjcaaaGreatDoor

namespace Go.Proofs.YtjkkonhhnmjcaaaGreatDoor
open Go.RowKit

/-- One of the staff: number, role, ward. -/
structure P3 where
  a : Nat
  r : Nat
  w : Nat
deriving DecidableEq
def P3.cells (p : P3) : List Value := [.int .u32 (p.a : Nat), .int .u32 (p.r : Nat), .int .u32 (p.w : Nat)]
def pcells (l : List P3) : List Value := l.flatMap P3.cells
/-- The staff in memory. -/
def Stf (w : World) (x : Value) (l : List P3) : Prop :=
  (∃ a c, x = .slice a 0 c ∧ l = []) ∨ ∃ g o c, x = .slice (some ⟨g, o, none⟩) l.length c ∧ ∀ j (h : j < l.length), w.cell? ⟨g, o + j * 3, none⟩ = some (.int .u32 (l[j].a : Nat)) ∧ w.cell? ⟨g, o + j * 3 + 1, none⟩ = some (.int .u32 (l[j].r : Nat)) ∧ w.cell? ⟨g, o + j * 3 + 2, none⟩ = some (.int .u32 (l[j].w : Nat))
theorem Stf.form {w : World} {x : Value} {l : List P3} (h : Stf w x l) : ∃ xo xc, x = .slice xo l.length xc := by
  rcases h with ⟨a, c, rfl, rfl⟩ | ⟨g, o, c, rfl, _⟩ <;> exact ⟨_, _, rfl⟩
theorem Stf.fr {w w' : World} {x : Value} {l : List P3} (h : Stf w x l) (hf : Fr (fun _ => False) w w') : Stf w' x l := by
  rcases h with h | ⟨g, o, c, h1, h2⟩
  · exact .inl h
  · refine .inr ⟨g, o, c, h1, fun j hj => ?_⟩
    obtain ⟨c0, c1, c2⟩ := h2 j hj
    exact ⟨(hf.cell (p := ⟨g, _, none⟩) (lt_of_cell c0) (fun h => h)).trans c0, (hf.cell (p := ⟨g, _, none⟩) (lt_of_cell c1) (fun h => h)).trans c1, (hf.cell (p := ⟨g, _, none⟩) (lt_of_cell c2) (fun h => h)).trans c2⟩
theorem Stf.at_ {w : World} {xo : Option Addr} {n c : Nat} {l : List P3} (h : Stf w (.slice xo n c) l) (j : Nat) (hj : j < l.length) : ∃ g o, xo = some ⟨g, o, none⟩ ∧ w.cell? ⟨g, o + j * 3, none⟩ = some (.int .u32 (l[j].a : Nat)) ∧ w.cell? ⟨g, o + j * 3 + 1, none⟩ = some (.int .u32 (l[j].r : Nat)) ∧ w.cell? ⟨g, o + j * 3 + 2, none⟩ = some (.int .u32 (l[j].w : Nat)) := by
  rcases h with ⟨_, _, _, rfl⟩ | ⟨g, o, c', e, h2⟩
  · simp at hj
  · simp only [Value.slice.injEq] at e
    obtain ⟨rfl, _, _⟩ := e
    exact ⟨g, o, rfl, h2 j hj⟩
/-- The place of the first one of that number, and who it is. -/
def fnd (l : List P3) (k : Nat) : Option Nat := l.findIdx? (fun p => decide (p.a = k))
def perso (l : List P3) (k : Nat) : Option P3 := l.find? (fun p => decide (p.a = k))
theorem fnd_at {l : List P3} {k j : Nat} (hj : j < l.length) (h : ∀ i (hi : i < l.length), i < j → l[i].a ≠ k) (e : l[j].a = k) : fnd l k = some j ∧ perso l k = some l[j] := by
  refine ⟨List.findIdx?_eq_some_iff_getElem.2 ⟨hj, by simpa using e, fun i hi => by simpa using h i (by omega) hi⟩, ?_⟩
  exact List.find?_eq_some_iff_getElem.2 ⟨by simpa using e, j, hj, rfl, fun i hi => by simpa using h i (by omega) hi⟩
theorem fnd_no {l : List P3} {k : Nat} (h : ∀ i (hi : i < l.length), l[i].a ≠ k) : fnd l k = none ∧ perso l k = none := by
  refine ⟨List.findIdx?_eq_none_iff.2 fun x hx => ?_, List.find?_eq_none.2 fun x hx => ?_⟩
  · obtain ⟨i, hi, rfl⟩ := List.mem_iff_getElem.1 hx
    simpa using h i hi
  · obtain ⟨i, hi, rfl⟩ := List.mem_iff_getElem.1 hx
    simpa using h i hi
theorem fnd_cases (l : List P3) (k : Nat) : (fnd l k = none ∧ perso l k = none) ∨ ∃ (j : Nat) (hj : j < l.length), fnd l k = some j ∧ perso l k = some l[j] ∧ l[j].a = k := by
  rcases h : fnd l k with _ | j
  · refine .inl ⟨rfl, (fnd_no fun i hi => ?_).2⟩
    have := List.findIdx?_eq_none_iff.1 h l[i] (List.getElem_mem hi)
    simpa using this
  · obtain ⟨hj, e, hlt⟩ := List.findIdx?_eq_some_iff_getElem.1 h
    have e' : l[j].a = k := by simpa using e
    exact .inr ⟨j, hj, rfl, (fnd_at hj (fun i hi h => by simpa using hlt i h) e').2, e'⟩
/-- How a person is told. -/
def pv (p : P3) : Value := .agg #[.int .u32 (p.a : Nat), .int .u32 (p.r : Nat), .int .u32 (p.w : Nat)]
def p0 : P3 := ⟨0, 0, 0⟩
end Go.Proofs.YtjkkonhhnmjcaaaGreatDoor

namespace Go.Proofs.YtjkkonhhnmjcaaaGreatDoor
open Go.RowKit

/-- A slice of numbers of 32 bits. -/
def Us (w : World) (x : Value) (l : List Nat) : Prop :=
  (∃ a c, x = .slice a 0 c ∧ l = []) ∨ ∃ g o c, x = .slice (some ⟨g, o, none⟩) l.length c ∧ ∀ j (h : j < l.length), w.cell? ⟨g, o + j, none⟩ = some (.int .u32 (l[j] : Nat))
theorem Us.form {w : World} {x : Value} {l : List Nat} (h : Us w x l) : ∃ xo xc, x = .slice xo l.length xc := by
  rcases h with ⟨a, c, rfl, rfl⟩ | ⟨g, o, c, rfl, _⟩ <;> exact ⟨_, _, rfl⟩
theorem Us.fr {w w' : World} {x : Value} {l : List Nat} (h : Us w x l) (hf : Fr (fun _ => False) w w') : Us w' x l := by
  rcases h with h | ⟨g, o, c, h1, h2⟩
  · exact .inl h
  · exact .inr ⟨g, o, c, h1, fun j hj => (hf.cell (p := ⟨g, _, none⟩) (lt_of_cell (h2 j hj)) (fun h => h)).trans (h2 j hj)⟩
theorem Us.at_ {w : World} {xo : Option Addr} {n c : Nat} {l : List Nat} (h : Us w (.slice xo n c) l) (j : Nat) (hj : j < l.length) : ∃ g o, xo = some ⟨g, o, none⟩ ∧ w.cell? ⟨g, o + j, none⟩ = some (.int .u32 (l[j] : Nat)) := by
  rcases h with ⟨_, _, _, rfl⟩ | ⟨g, o, c', e, h2⟩
  · simp at hj
  · simp only [Value.slice.injEq] at e
    obtain ⟨rfl, _, _⟩ := e
    exact ⟨g, o, rfl, h2 j hj⟩
end Go.Proofs.YtjkkonhhnmjcaaaGreatDoor

namespace Go.Proofs.YtjkkonhhnmjcaaaGreatDoor
open Go.RowKit

/-- A question: the staff, who asks, the sheet, the fields, the reason. -/
structure QM where
  sv : Value
  p : P3
  wd : Nat
  ow : Nat
  sl : Bool
  gv : Value
  fv : Value
  rs : ByteArray
theorem beq_cast (a b : Nat) : ((a : Int) == (b : Int)) = decide (a = b) := by
  rw [Bool.eq_iff_iff]; simp only [beq_iff_eq, decide_eq_true_eq]; omega
def QM.v (q : QM) : Value := .agg #[q.sv, .int .u32 (q.p.a : Nat), .int .u32 (q.p.r : Nat), .int .u32 (q.p.w : Nat), .int .u32 (q.wd : Nat), .int .u32 (q.ow : Nat), .bool q.sl, q.gv, q.fv, .string q.rs]
/-- Is the owner a patient? -/
def ownP (S : List P3) (ow : Nat) : Bool := match perso S ow with
  | some p => decide (p.r = 5)
  | none => false
end Go.Proofs.YtjkkonhhnmjcaaaGreatDoor

namespace Go.Proofs.YtjkkonhhnmjcaaaGreatDoor
open Go.RowKit

@[go_sem] theorem run_store_floatS (P : Program) (w : World) (a : Addr) (m : Mode) (k : FloatKind) (x : Nat) : (store a (.float k x) m).run P w = stored P w a (.float k x) m := run_store P w a _ m rfl
/-- A field: name, kind, text, value, unit. -/
structure F5 where
  n : ByteArray
  k : Nat
  t : ByteArray
  v : Nat
  u : Nat
def Fds (w : World) (x : Value) (l : List F5) : Prop :=
  (∃ a c, x = .slice a 0 c ∧ l = []) ∨ ∃ g o c, x = .slice (some ⟨g, o, none⟩) l.length c ∧ ∀ j (h : j < l.length), w.cell? ⟨g, o + j * 5, none⟩ = some (.string l[j].n) ∧ w.cell? ⟨g, o + j * 5 + 1, none⟩ = some (.int .u8 (l[j].k : Nat)) ∧ w.cell? ⟨g, o + j * 5 + 2, none⟩ = some (.string l[j].t) ∧ w.cell? ⟨g, o + j * 5 + 3, none⟩ = some (.float .f32 l[j].v) ∧ w.cell? ⟨g, o + j * 5 + 4, none⟩ = some (.int .u8 (l[j].u : Nat))
theorem Fds.form {w : World} {x : Value} {l : List F5} (h : Fds w x l) : ∃ xo xc, x = .slice xo l.length xc := by
  rcases h with ⟨a, c, rfl, rfl⟩ | ⟨g, o, c, rfl, _⟩ <;> exact ⟨_, _, rfl⟩
theorem Fds.fr {w w' : World} {x : Value} {l : List F5} (h : Fds w x l) (hf : Fr (fun _ => False) w w') : Fds w' x l := by
  rcases h with h | ⟨g, o, c, h1, h2⟩
  · exact .inl h
  · refine .inr ⟨g, o, c, h1, fun j hj => ?_⟩
    obtain ⟨c0, c1, c2, c3, c4⟩ := h2 j hj
    have hg : g < w.heap.size := lt_of_cell c0
    exact ⟨(hf.cell (p := ⟨g, _, none⟩) hg (fun h => h)).trans c0, (hf.cell (p := ⟨g, _, none⟩) hg (fun h => h)).trans c1, (hf.cell (p := ⟨g, _, none⟩) hg (fun h => h)).trans c2, (hf.cell (p := ⟨g, _, none⟩) hg (fun h => h)).trans c3, (hf.cell (p := ⟨g, _, none⟩) hg (fun h => h)).trans c4⟩
theorem Fds.at_ {w : World} {xo : Option Addr} {n c : Nat} {l : List F5} (h : Fds w (.slice xo n c) l) (j : Nat) (hj : j < l.length) : ∃ g o, xo = some ⟨g, o, none⟩ ∧ w.cell? ⟨g, o + j * 5, none⟩ = some (.string l[j].n) ∧ w.cell? ⟨g, o + j * 5 + 1, none⟩ = some (.int .u8 (l[j].k : Nat)) ∧ w.cell? ⟨g, o + j * 5 + 2, none⟩ = some (.string l[j].t) ∧ w.cell? ⟨g, o + j * 5 + 3, none⟩ = some (.float .f32 l[j].v) ∧ w.cell? ⟨g, o + j * 5 + 4, none⟩ = some (.int .u8 (l[j].u : Nat)) := by
  rcases h with ⟨_, _, _, rfl⟩ | ⟨g, o, c', e, h2⟩
  · simp at hj
  · simp only [Value.slice.injEq] at e
    obtain ⟨rfl, _, _⟩ := e
    exact ⟨g, o, rfl, h2 j hj⟩
/-- Texts alone? -/
def txts (l : List F5) : Bool := l.all fun f => decide (f.k = 1)
end Go.Proofs.YtjkkonhhnmjcaaaGreatDoor

namespace Go.Proofs.YtjkkonhhnmjcaaaGreatDoor
open Go.RowKit

def QM.near (q : QM) : Bool := decide (q.p.w = q.wd)
def QM.own (q : QM) : Bool := decide (q.p.a = q.ow)
def QM.role (q : QM) (l : List Nat) : Bool := decide (q.p.r ∈ l)
/-- What a question stands upon: the staff, who is granted, the fields. -/
structure QE (w : World) (q : QM) (S : List P3) (G : List Nat) (F : List F5) : Prop where
  s : Stf w q.sv S
  g : Us w q.gv G
  f : Fds w q.fv F
  sl : S.length ≤ 140737488355328
  gl : G.length ≤ 140737488355328
  fl : F.length ≤ 140737488355328
theorem QE.fr {w w' : World} {q : QM} {S : List P3} {G : List Nat} {F : List F5} (h : QE w q S G F) (hf : Fr (fun _ => False) w w') : QE w' q S G F := ⟨h.s.fr hf, h.g.fr hf, h.f.fr hf, h.sl, h.gl, h.fl⟩
def QM.cs (q : QM) : Array Value := #[q.sv, .int .u32 (q.p.a : Nat), .int .u32 (q.p.r : Nat), .int .u32 (q.p.w : Nat), .int .u32 (q.wd : Nat), .int .u32 (q.ow : Nat), .bool q.sl, q.gv, q.fv, .string q.rs]
theorem Us.lit (W : World) (l : List Nat) (ht : TypeId) : Us (W.alloc (.cells (l.map fun c => Value.int .u32 (c : Nat)).toArray ht)) (.slice (some ⟨W.heap.size, 0, none⟩) l.length l.length) l := by
  refine .inr ⟨W.heap.size, 0, l.length, rfl, fun j hj => ?_⟩
  rw [World.cell?_alloc_at _ _ _ _ rfl]
  simp [hj]
/-- The rules. -/
def rdF (q : QM) (G : List Nat) : Bool := q.own || (q.near && q.role [3]) || (q.near && q.role [2, 1] && !q.sl) || (decide (q.p.a ∈ G) && q.role [3, 2])
def whyRd (q : QM) : Nat := if q.near && q.role [2, 1] then 6 else 5
def crF (q : QM) (S : List P3) : Bool := ownP S q.ow && q.near && q.role [1, 2, 3]
def whyCr (q : QM) (S : List P3) : Nat := if ownP S q.ow then 5 else 1
def hiF (q : QM) (G : List Nat) : Bool := q.role [4] || rdF q G
def amF (q : QM) (G : List Nat) (F : List F5) : Bool := rdF q G && (q.role [2, 3] || q.role [1] && txts F)
def whyAm (q : QM) (G : List Nat) : Nat := if rdF q G then 5 else whyRd q
def reF (q : QM) : Bool := q.own || (q.near && q.role [3])
def seF (q : QM) : Bool := q.own
def brF (q : QM) : Bool := q.role [3, 2] && !q.rs.toList.isEmpty
end Go.Proofs.YtjkkonhhnmjcaaaGreatDoor

namespace Go.Proofs.YtjkkonhhnmjcaaaGreatDoor
open Go.RowKit

end Go.Proofs.YtjkkonhhnmjcaaaGreatDoor

namespace Go.Proofs.YtjkkonhhnmjcaaaGreatDoor
open Go.RowKit

end Go.Proofs.YtjkkonhhnmjcaaaGreatDoor

namespace Go.Proofs.YtjkkonhhnmjcaaaGreatDoor
open Go.RowKit

@[go_sem] theorem run_store_func (P : Program) (w : World) (a : Addr) (m : Mode) (f : Fn) (x y : Array _) : (store a (.func f x y) m).run P w = stored P w a (.func f x y) m := run_store P w a _ m rfl
@[go_sem] theorem run_store_nilFunc (P : Program) (w : World) (a : Addr) (m : Mode) : (store a .nilFunc m).run P w = stored P w a .nilFunc m := run_store P w a _ m rfl
/-- A result that lies in memory: a whole row. -/
theorem results_cell_mid {P : Program} {fn : Func} {p : Tmp} {ty : TypeId} (h : fn.results = #[.cell p ty]) (tmps : Array Value) (w : World) (b o : Nat) (cs : List Value) (d : TypeDesc)
    (hp : tmps.getD p undef = .pointer (some ⟨b, o, none⟩)) (hc : w.rangeAt b o cs)
    (hu : P.underlying ty = some d) (hd : d.isRow = true) (hi : (P.info? ty).map (·.size) = some cs.length) :
    (results fn tmps).run P w = .ok (.agg cs.toArray) w := by
  have hp' : tmps[p]?.getD undef = .pointer (some ⟨b, o, none⟩) := by simpa using hp
  simp [results, h, hp', asAddr, run_loadVar_mid w b o ty cs d hc hu hd hi]
end Go.Proofs.YtjkkonhhnmjcaaaGreatDoor

namespace Go.Proofs.YtjkkonhhnmjcaaaGreatDoor
open Go.RowKit

/-- Ten cells of a box. -/
theorem box10 {W : World} {b : Nat} {x0 x1 x2 x3 x4 x5 x6 x7 x8 x9 : Value} {t : TypeId} (hb : W.heap[b]? = some (.cells #[x0, x1, x2, x3, x4, x5, x6, x7, x8, x9] t)) :
    W.cell? ⟨b, 0, none⟩ = some x0 ∧ W.cell? ⟨b, 1, none⟩ = some x1 ∧ W.cell? ⟨b, 2, none⟩ = some x2 ∧ W.cell? ⟨b, 3, none⟩ = some x3 ∧ W.cell? ⟨b, 4, none⟩ = some x4 ∧ W.cell? ⟨b, 5, none⟩ = some x5 ∧ W.cell? ⟨b, 6, none⟩ = some x6 ∧ W.cell? ⟨b, 7, none⟩ = some x7 ∧ W.cell? ⟨b, 8, none⟩ = some x8 ∧ W.cell? ⟨b, 9, none⟩ = some x9 ∧ ∀ i, W.frozen? ⟨b, i, none⟩ = false := by
  refine ⟨?_, ?_, ?_, ?_, ?_, ?_, ?_, ?_, ?_, ?_, fun i => ?_⟩
  iterate 10 (simp only [World.cell?, hb]; rfl)
  simp [World.frozen?, hb]
/-- The box, once it is known who asks. -/
theorem box_set {w2 : World} {b : Nat} {x0 x1 x2 x3 x4 x5 x6 x7 x8 x9 : Value} (y1 y2 y3 : Value) (o : Obj) (hsz : b < w2.heap.size) (c0 : w2.cell? ⟨b, 0, none⟩ = some x0) (c1 : w2.cell? ⟨b, 1, none⟩ = some x1) (c2 : w2.cell? ⟨b, 2, none⟩ = some x2) (c3 : w2.cell? ⟨b, 3, none⟩ = some x3) (c4 : w2.cell? ⟨b, 4, none⟩ = some x4) (c5 : w2.cell? ⟨b, 5, none⟩ = some x5) (c6 : w2.cell? ⟨b, 6, none⟩ = some x6) (c7 : w2.cell? ⟨b, 7, none⟩ = some x7) (c8 : w2.cell? ⟨b, 8, none⟩ = some x8) (c9 : w2.cell? ⟨b, 9, none⟩ = some x9) :
    let W := (((w2.setCell ⟨b, 1, none⟩ y1).setCell ⟨b, 2, none⟩ y2).setCell ⟨b, 3, none⟩ y3).alloc o
    W.cell? ⟨b, 0, none⟩ = some x0 ∧ W.cell? ⟨b, 1, none⟩ = some y1 ∧ W.cell? ⟨b, 2, none⟩ = some y2 ∧ W.cell? ⟨b, 3, none⟩ = some y3 ∧ W.cell? ⟨b, 4, none⟩ = some x4 ∧ W.cell? ⟨b, 5, none⟩ = some x5 ∧ W.cell? ⟨b, 6, none⟩ = some x6 ∧ W.cell? ⟨b, 7, none⟩ = some x7 ∧ W.cell? ⟨b, 8, none⟩ = some x8 ∧ W.cell? ⟨b, 9, none⟩ = some x9 := by
  refine ⟨?_, ?_, ?_, ?_, ?_, ?_, ?_, ?_, ?_, ?_⟩
  all_goals go_simp
end Go.Proofs.YtjkkonhhnmjcaaaGreatDoor

namespace Go.Proofs.YtjkkonhhnmjcaaaGreatDoor
open Go.RowKit

theorem QE.who {w : World} {q : QM} {S : List P3} {G : List Nat} {F : List F5} (h : QE w q S G F) (p : P3) : QE w { q with p := p } S G F := ⟨h.s, h.g, h.f, h.sl, h.gl, h.fl⟩
/-- What is answered, once it is known who asks. -/
def ansv (S : List P3) (k : Nat) (f : P3 → Nat) : Nat := match perso S k with
  | none => 1
  | some p => f p
theorem fds_nil (w : World) : Fds w (.slice none 0 0) [] := .inl ⟨_, _, rfl, rfl⟩
theorem us_nil (w : World) : Us w (.slice none 0 0) [] := .inl ⟨_, _, rfl, rfl⟩
end Go.Proofs.YtjkkonhhnmjcaaaGreatDoor

namespace Go.Proofs.YtjkkonhhnmjcaaaGreatDoor
/-- What a word stands for, where it is a number. -/
theorem rd_num (x : Nat) (hf : x % 2147483648 < 2139095040) : ∃ m k : Nat, Ieee.single.read x = .number (x / 2147483648 % 2 == 1) m (-149 + (k : Int)) ∧ k ≤ 253 ∧ m ≤ 16777215 ∧ (m = 0 ↔ x % 2147483648 = 0) ∧ (k = 253 ∧ m = 16777215 → x % 2147483648 = 2139095039) := by
  have e : Ieee.single.read x = if x % 2147483648 < 8388608 then Ieee.Datum.number (x / 2147483648 % 2 == 1) (x % 2147483648) (-149) else if x % 2147483648 < 2139095040 then Ieee.Datum.number (x / 2147483648 % 2 == 1) (8388608 + x % 2147483648 % 8388608) (-149 + ((x % 2147483648 / 8388608 - 1 : Nat) : Int)) else if x % 2147483648 = 2139095040 then .infinity (x / 2147483648 % 2 == 1) else .nan (x / 2147483648 % 2 == 1) (x % 2147483648 - 2139095040) := rfl
  rw [e]
  generalize x % 2147483648 = r at *
  by_cases h : r < 8388608
  · rw [if_pos h]
    exact ⟨r, 0, rfl, by omega, by omega, Iff.rfl, by omega⟩
  · rw [if_neg h, if_pos hf]
    refine ⟨8388608 + r % 8388608, r / 8388608 - 1, rfl, by omega, by omega, by omega, by omega⟩
theorem shl_ge (a k : Nat) : a ≤ a <<< k := by rw [Nat.shiftLeft_eq]; exact Nat.le_mul_of_pos_right a (Nat.two_pow_pos k)
theorem shl_gt (a k : Nat) (ha : 0 < a) (hk : 0 < k) : a < a <<< k := by
  rw [Nat.shiftLeft_eq]
  have : 2 ^ 1 ≤ 2 ^ k := Nat.pow_le_pow_right (by decide) hk
  have := Nat.mul_le_mul_left a this
  omega
theorem ord_hi (x : Nat) (hf : x % 2147483648 < 2139095040) : Ieee.single.order x 2139095039 = some (if x % 4294967296 = 2139095039 then .eq else .lt) := by
  obtain ⟨m, k, e, hk, hm, _, hx⟩ := rd_num x hf
  have eh : Ieee.single.read 2139095039 = .number false 16777215 104 := by decide
  show (Ieee.single.read x).order (Ieee.single.read 2139095039) = _
  rw [e, eh]
  show some (compare (Ieee.signed _ m ((-149 + (k : Int)) - min (-149 + (k : Int)) 104).toNat) (Ieee.signed false 16777215 (104 - min (-149 + (k : Int)) 104).toNat)) = _
  have e1 : min (-149 + (k : Int)) 104 = -149 + (k : Int) := by omega
  rw [e1, show (-149 + (k : Int)) - (-149 + (k : Int)) = 0 by omega]
  have e2 : (104 - (-149 + (k : Int))).toNat = 253 - k := by omega
  rw [e2]
  simp only [Ieee.signed, Int.toNat_zero, Nat.shiftLeft_zero, Bool.false_eq_true, if_false]
  have hge := shl_ge 16777215 (253 - k)
  by_cases hn : (x / 2147483648 % 2 == 1) = true
  · rw [if_pos hn]
    have hn' : x / 2147483648 % 2 = 1 := by simpa using hn
    rw [if_neg (by omega)]
    congr 1
    rw [Int.compare_eq_lt]
    omega
  · rw [if_neg hn]
    have hn' : x / 2147483648 % 2 = 0 := by
      have : ¬ x / 2147483648 % 2 = 1 := by simpa using hn
      omega
    by_cases hq : k = 253 ∧ m = 16777215
    · have := hx hq
      obtain ⟨rfl, rfl⟩ := hq
      rw [if_pos (by omega)]
      congr 1
    · congr 1
      have hlt : m < 16777215 <<< (253 - k) := by
        by_cases h1 : k = 253
        · have : m ≠ 16777215 := fun e => hq ⟨h1, e⟩
          omega
        · have := shl_gt 16777215 (253 - k) (by decide) (by omega)
          omega
      have hne : ¬ x % 4294967296 = 2139095039 := fun h => by
        have hr : x % 2147483648 = 2139095039 := by omega
        have er : Ieee.single.read x = Ieee.single.read 2139095039 := by
          show (if x % 2147483648 < 8388608 then Ieee.Datum.number (x / 2147483648 % 2 == 1) (x % 2147483648) (-149) else if x % 2147483648 < 2139095040 then Ieee.Datum.number (x / 2147483648 % 2 == 1) (8388608 + x % 2147483648 % 8388608) (-149 + ((x % 2147483648 / 8388608 - 1 : Nat) : Int)) else if x % 2147483648 = 2139095040 then .infinity (x / 2147483648 % 2 == 1) else .nan (x / 2147483648 % 2 == 1) (x % 2147483648 - 2139095040)) = _
          rw [hr, hn']
          decide
        rw [e, eh] at er
        injection er with _ h1 h2
        exact hq ⟨by omega, h1⟩
      rw [if_neg hne, Int.compare_eq_lt]
      omega
theorem rd_eq (x : Nat) : Ieee.single.read x = if x % 2147483648 < 8388608 then Ieee.Datum.number (x / 2147483648 % 2 == 1) (x % 2147483648) (-149) else if x % 2147483648 < 2139095040 then Ieee.Datum.number (x / 2147483648 % 2 == 1) (8388608 + x % 2147483648 % 8388608) (-149 + ((x % 2147483648 / 8388608 - 1 : Nat) : Int)) else if x % 2147483648 = 2139095040 then .infinity (x / 2147483648 % 2 == 1) else .nan (x / 2147483648 % 2 == 1) (x % 2147483648 - 2139095040) := rfl
theorem ord_lo (x : Nat) (hf : x % 2147483648 < 2139095040) : Ieee.single.order x 4286578687 = some (if x % 4294967296 = 4286578687 then .eq else .gt) := by
  obtain ⟨m, k, e, hk, hm, _, hx⟩ := rd_num x hf
  have eh : Ieee.single.read 4286578687 = .number true 16777215 104 := by decide
  show (Ieee.single.read x).order (Ieee.single.read 4286578687) = _
  rw [e, eh]
  show some (compare (Ieee.signed _ m ((-149 + (k : Int)) - min (-149 + (k : Int)) 104).toNat) (Ieee.signed true 16777215 (104 - min (-149 + (k : Int)) 104).toNat)) = _
  have e1 : min (-149 + (k : Int)) 104 = -149 + (k : Int) := by omega
  rw [e1, show (-149 + (k : Int)) - (-149 + (k : Int)) = 0 by omega]
  have e2 : (104 - (-149 + (k : Int))).toNat = 253 - k := by omega
  rw [e2]
  simp only [Ieee.signed, Int.toNat_zero, Nat.shiftLeft_zero, if_true]
  have hge := shl_ge 16777215 (253 - k)
  by_cases hn : (x / 2147483648 % 2 == 1) = true
  · rw [if_pos hn]
    have hn' : x / 2147483648 % 2 = 1 := by simpa using hn
    by_cases hq : k = 253 ∧ m = 16777215
    · have := hx hq
      obtain ⟨rfl, rfl⟩ := hq
      rw [if_pos (by omega)]
      congr 1
    · congr 1
      have hlt : m < 16777215 <<< (253 - k) := by
        by_cases h1 : k = 253
        · have : m ≠ 16777215 := fun e => hq ⟨h1, e⟩
          omega
        · have := shl_gt 16777215 (253 - k) (by decide) (by omega)
          omega
      have hne : ¬ x % 4294967296 = 4286578687 := fun h => by
        have hr : x % 2147483648 = 2139095039 := by omega
        have er : Ieee.single.read x = Ieee.single.read 4286578687 := by
          rw [rd_eq x, hr, hn']
          decide
        rw [e, eh] at er
        injection er with _ h1 h2
        exact hq ⟨by omega, h1⟩
      rw [if_neg hne, Int.compare_eq_gt]
      omega
  · rw [if_neg hn]
    have hn' : x / 2147483648 % 2 = 0 := by
      have : ¬ x / 2147483648 % 2 = 1 := by simpa using hn
      omega
    rw [if_neg (by omega)]
    congr 1
    rw [Int.compare_eq_gt]
    omega
theorem ord_self (x : Nat) (hf : x % 2147483648 < 2139095040) : Ieee.single.order x x = some .eq := by
  obtain ⟨m, k, e, _⟩ := rd_num x hf
  show (Ieee.single.read x).order (Ieee.single.read x) = _
  rw [e]
  simp [Ieee.Datum.order]
theorem ord_zero (x : Nat) (hf : x % 2147483648 < 2139095040) : (Ieee.single.order x 0 == some .eq) = decide (x % 2147483648 = 0) := by
  obtain ⟨m, k, e, hk, hm, h0, _⟩ := rd_num x hf
  have eh : Ieee.single.read 0 = .number false 0 (-149) := by decide
  show ((Ieee.single.read x).order (Ieee.single.read 0) == _) = _
  rw [e, eh]
  show (some (compare (Ieee.signed _ m ((-149 + (k : Int)) - min (-149 + (k : Int)) (-149)).toNat) (Ieee.signed false 0 (-149 - min (-149 + (k : Int)) (-149)).toNat)) == some .eq) = _
  have e1 : min (-149 + (k : Int)) (-149) = -149 := by omega
  rw [e1, show ((-149 + (k : Int)) - -149).toNat = k by omega]
  simp only [Ieee.signed, Nat.zero_shiftLeft, Bool.false_eq_true, if_false]
  have hge := shl_ge m k
  by_cases hm0 : m = 0
  · have := h0.1 hm0
    subst hm0
    rw [decide_eq_true this]
    simp
  · have hx0 : ¬ x % 2147483648 = 0 := fun e => hm0 (h0.2 e)
    rw [decide_eq_false hx0]
    have : compare (if (x / 2147483648 % 2 == 1) = true then -((m <<< k : Nat) : Int) else ((m <<< k : Nat) : Int)) ((0 : Nat) : Int) ≠ .eq := by
      rw [Ne, Int.compare_eq_eq]
      split <;> omega
    simpa using this
theorem ord_nan_l (x y : Nat) (h : 2139095040 < x % 2147483648) : Ieee.single.order x y = none := by
  show (Ieee.single.read x).order (Ieee.single.read y) = _
  rw [rd_eq x, if_neg (by omega), if_neg (by omega), if_neg (by omega)]
  rfl
theorem ord_nan_r (x y : Nat) (h : 2139095040 < y % 2147483648) : Ieee.single.order x y = none := by
  show (Ieee.single.read x).order (Ieee.single.read y) = _
  rw [rd_eq y, if_neg (by omega), if_neg (by omega), if_neg (by omega)]
  cases Ieee.single.read x <;> rfl
theorem rd_inf (x : Nat) (h : x % 2147483648 = 2139095040) : Ieee.single.read x = .infinity (x / 2147483648 % 2 == 1) := by
  rw [rd_eq x, if_neg (by omega), if_neg (by omega), if_pos h]
theorem neg_of (x : Nat) : (Ieee.single.read x).neg = (x / 2147483648 % 2 == 1) := by
  rw [rd_eq x]
  split
  · rfl
  · split
    · rfl
    · split <;> rfl
/-- A NaN that was drawn. -/
theorem cut_nan (m : Bool) (x y t : Nat) : 2139095040 < (Question.nanMinMax .f32 m x y).cut t % 2147483648 := by
  show 2139095040 < (t % 2 * 2147483648 + 2139095040 + 1 + t / 2 % 8388607) % 2147483648
  have h := Nat.mod_lt (t / 2) (show 0 < 8388607 by decide)
  generalize t / 2 % 8388607 = q at h
  generalize t % 2 = p
  rw [show p * 2147483648 + 2139095040 + 1 + q = (2139095041 + q) + 2147483648 * p by omega, Nat.add_mul_mod_self_left, Nat.mod_eq_of_lt (by omega)]
  omega
theorem run_max_fin (P : Program) (w : World) (a : Array TypeId) (ty : TypeId) (x : Nat) (hx : x < 4294967296) (hf : x % 2147483648 < 2139095040) : (Builtin.max_ a ty #[.float .f32 x, .float .f32 4286578687]).run P w = .ok (.float .f32 x) w := by
  have ho : FloatKind.f32.format.order x 4286578687 = some (if x % 4294967296 = 4286578687 then .eq else .gt) := ord_lo x hf
  rw [Nat.mod_eq_of_lt hx] at ho
  show (Builtin.max2 (.float .f32 x) (.float .f32 4286578687) >>= pure).run P w = _
  unfold Builtin.max2
  simp only [ho]
  by_cases e : x = 4286578687
  · subst e
    have en : (FloatKind.f32.decode 4286578687).neg = true := by decide
    simp only [if_true, en]
    rfl
  · simp only [if_neg e]
    rfl
theorem run_min_fin (P : Program) (w : World) (a : Array TypeId) (ty : TypeId) (x : Nat) (hx : x < 4294967296) (hf : x % 2147483648 < 2139095040) : (Builtin.min_ a ty #[.float .f32 x, .float .f32 2139095039]).run P w = .ok (.float .f32 x) w := by
  have ho : FloatKind.f32.format.order x 2139095039 = some (if x % 4294967296 = 2139095039 then .eq else .lt) := ord_hi x hf
  rw [Nat.mod_eq_of_lt hx] at ho
  show (Builtin.min2 (.float .f32 x) (.float .f32 2139095039) >>= pure).run P w = _
  unfold Builtin.min2
  simp only [ho]
  by_cases e : x = 2139095039
  · subst e
    have en : (FloatKind.f32.decode 2139095039).neg = false := by decide
    simp only [if_true, en]
    rfl
  · simp only [if_neg e]
    rfl
theorem run_max_nan (P : Program) (w : World) (a : Array TypeId) (ty : TypeId) (x y : Nat) (hf : 2139095040 < x % 2147483648) : ∃ z, 2139095040 < z % 2147483648 ∧ (Builtin.max_ a ty #[.float .f32 x, .float .f32 y]).run P w = .ok (.float .f32 z) w.drew := by
  have ho : FloatKind.f32.format.order x y = none := ord_nan_l x y hf
  refine ⟨(Question.nanMinMax .f32 true x y).cut (w.tape w.drawn (Question.nanMinMax .f32 true x y)), cut_nan _ _ _ _, ?_⟩
  show (Builtin.max2 (.float .f32 x) (.float .f32 y) >>= pure).run P w = _
  unfold Builtin.max2
  simp only [ho]
  simp [Question.forced]
theorem run_min_nan (P : Program) (w : World) (a : Array TypeId) (ty : TypeId) (x y : Nat) (hf : 2139095040 < x % 2147483648) : ∃ z, 2139095040 < z % 2147483648 ∧ (Builtin.min_ a ty #[.float .f32 x, .float .f32 y]).run P w = .ok (.float .f32 z) w.drew := by
  have ho : FloatKind.f32.format.order x y = none := ord_nan_l x y hf
  refine ⟨(Question.nanMinMax .f32 false x y).cut (w.tape w.drawn (Question.nanMinMax .f32 false x y)), cut_nan _ _ _ _, ?_⟩
  show (Builtin.min2 (.float .f32 x) (.float .f32 y) >>= pure).run P w = _
  unfold Builtin.min2
  simp only [ho]
  simp [Question.forced]
/-- An infinity comes out as a bound. -/
theorem run_max_inf (P : Program) (w : World) (a : Array TypeId) (ty : TypeId) (b : Bool) : (Builtin.max_ a ty #[.float .f32 (if b then 4286578688 else 2139095040), .float .f32 4286578687]).run P w = .ok (.float .f32 (if b then 4286578687 else 2139095040)) w := by
  cases b <;> rfl
theorem run_min_inf (P : Program) (w : World) (a : Array TypeId) (ty : TypeId) (b : Bool) : (Builtin.min_ a ty #[.float .f32 (if b then 4286578687 else 2139095040), .float .f32 2139095039]).run P w = .ok (.float .f32 (if b then 4286578687 else 2139095039)) w := by
  cases b <;> rfl
end Go.Proofs.YtjkkonhhnmjcaaaGreatDoor

namespace Go.Proofs.YtjkkonhhnmjcaaaGreatDoor
open Go.RowKit

theorem box1S (w : World) (a : Obj) : Fr (fun _ => False) w (w.alloc a) := (Fr.refl _ _).alloc _
/-- Are these the bits of a number in its one form? -/
def canB (x : Nat) : Bool := decide (x % 2147483648 < 2139095040) && decide (x ≠ 2147483648)
/-- Has a field that has a name a form? -/
def fldB (f : F5) : Bool := decide (f.n.size ≤ 64) && decide (f.t.size ≤ 64) && (if f.k = 1 then decide (f.v = 0 ∧ f.u = 0) else if f.k = 2 then decide (f.t.size = 0) && canB f.v && decide (1 ≤ f.u ∧ f.u ≤ 21) else if f.k = 3 then decide (f.t.size = 0) && decide (f.v = 0 ∧ f.u = 0) else false)
/-- Is a text not above another? -/
def sleB (v a : ByteArray) : Bool := Op.bytesLess v.toList a.toList || v.toList == a.toList
/-- Do fields rise, and has each a form? -/
def risB (gone : Bool) : ByteArray → List F5 → Bool
  | _, [] => true
  | a, f :: r => !(sleB f.n a) && fldB f && (decide (f.k ≠ 3) || gone) && risB gone f.n r
def fdsB (l : List F5) (gone : Bool) : Bool := decide (l.length ≤ 32) && risB gone ⟨#[]⟩ l
/-- A request. -/
structure RQ where
  cl : Nat
  nu : Nat
  ac : Nat
  op : Nat
  rc : Nat
  ve : Nat
  wa : Nat
  ow : Nat
  fv : Value
  rs : ByteArray
def RQ.v (r : RQ) : Value := .agg #[.int .u32 (r.cl : Nat), .int .u32 (r.nu : Nat), .int .u32 (r.ac : Nat), .int .u8 (r.op : Nat), .int .u32 (r.rc : Nat), .int .u32 (r.ve : Nat), .int .u32 (r.wa : Nat), .int .u32 (r.ow : Nat), r.fv, .string r.rs]
end Go.Proofs.YtjkkonhhnmjcaaaGreatDoor

namespace Go.Proofs.YtjkkonhhnmjcaaaGreatDoor
open Go.RowKit

theorem Tryz.fbitsO (x : Nat) (w : World) : (callFunc 73 #[.float .f32 x]).run Tryz.prog w = .ok (.value (.int .u32 x)) w := by
  have h := @run_callFunc_extern Tryz.prog 73 _ Extern.MathFloatBits.float32bits Tryz.func73 (by kernel_rfl) (by kernel_rfl) (by kernel_rfl) (by kernel_rfl) #[.float .f32 x] w
  rw [h]; rfl
theorem Tryz.feq (x y : Nat) (w : World) : (binOp .eql 68 (.float .f32 x) (.float .f32 y)).run Tryz.prog w = .ok (.bool (Op.floatEq .f32 x y)) w := by kernel_rfl
set_option maxRecDepth 100000 in
theorem within_fin (x : Nat) (w : World) (hx : x < 4294967296) (hf : x % 2147483648 < 2139095040) :
    Calls Tryz.prog 124 #[.float .f32 x, .float .f32 4286578687, .float .f32 2139095039] w fun e w' => e = .returned (.bool true) ∧ w' = w := by
  have h1 := fun a ty W => run_max_fin Tryz.prog W a ty x hx hf
  have h2 := fun a ty W => run_min_fin Tryz.prog W a ty x hx hf
  have h3 : Op.floatEq .f32 x x = true := by
    have := ord_self x hf
    show (Ieee.single.order x x == some .eq) = true
    rw [this]; rfl
  have hq := Tryz.feq
  go_enter Tryz.func124, Tryz.ntmps124
  go_wp2_with fail
  go_ret
  exact ⟨rfl, rfl⟩
set_option maxRecDepth 100000 in
theorem within_inf (b : Bool) (w : World) :
    Calls Tryz.prog 124 #[.float .f32 (if b then 4286578688 else 2139095040), .float .f32 4286578687, .float .f32 2139095039] w fun e w' => e = .returned (.bool false) ∧ w' = w := by
  have h1 := fun a ty W => run_max_inf Tryz.prog W a ty b
  have h2 := fun a ty W => run_min_inf Tryz.prog W a ty b
  have h3 : Op.floatEq .f32 (if b then 4286578687 else 2139095039) (if b then 4286578688 else 2139095040) = false := by cases b <;> decide
  have hq := Tryz.feq
  generalize (if b then 4286578688 else 2139095040 : Nat) = X at *
  generalize (if b then 4286578687 else 2139095040 : Nat) = Y at *
  generalize (if b then 4286578687 else 2139095039 : Nat) = Z at *
  go_enter Tryz.func124, Tryz.ntmps124
  go_wp2_with fail
  go_ret
  exact ⟨rfl, rfl⟩
set_option maxRecDepth 100000 in
theorem within_nan (x : Nat) (w : World) (hf : 2139095040 < x % 2147483648) :
    Calls Tryz.prog 124 #[.float .f32 x, .float .f32 4286578687, .float .f32 2139095039] w fun e w' => e = .returned (.bool false) ∧ ∃ q, w' = w.drewN q := by
  obtain ⟨z, hz, h1⟩ := run_max_nan Tryz.prog w #[68, 68] 68 x 4286578687 hf
  obtain ⟨u, hu, h2⟩ := run_min_nan Tryz.prog w.drew #[68, 68] 68 z 2139095039 hz
  have h3 : Op.floatEq .f32 u x = false := by
    have := ord_nan_l u x hu
    show (Ieee.single.order u x == some .eq) = false
    rw [this]; rfl
  have hq := Tryz.feq
  go_enter Tryz.func124, Tryz.ntmps124
  go_wp2_with fail
  go_ret
  exact ⟨rfl, 2, rfl⟩
end Go.Proofs.YtjkkonhhnmjcaaaGreatDoor

namespace Go.Proofs.YtjkkonhhnmjcaaaGreatDoor
open Go.RowKit

theorem within_any (x : Nat) (w : World) (hx : x < 4294967296) :
    Calls Tryz.prog 124 #[.float .f32 x, .float .f32 4286578687, .float .f32 2139095039] w fun e w' => e = .returned (.bool (decide (x % 2147483648 < 2139095040))) ∧ ∃ q, w' = w.drewN q := by
  by_cases h1 : x % 2147483648 < 2139095040
  · rw [decide_eq_true h1]
    refine (within_fin x w hx h1).mono ?_
    rintro e w' ⟨rfl, rfl⟩
    exact ⟨rfl, 0, rfl⟩
  · rw [decide_eq_false h1]
    by_cases h2 : x % 2147483648 = 2139095040
    · obtain ⟨b, rfl⟩ : ∃ b : Bool, x = if b then 4286578688 else 2139095040 := by
        by_cases h3 : x < 2147483648
        · exact ⟨false, by simp; omega⟩
        · exact ⟨true, by simp; omega⟩
      refine (within_inf b w).mono ?_
      rintro e w' ⟨rfl, rfl⟩
      exact ⟨rfl, 0, rfl⟩
    · exact within_nan x w (by omega)
set_option maxRecDepth 100000 in
theorem isNumber_any (x : Nat) (w : World) (hx : x < 4294967296) :
    Calls Tryz.prog 97 #[.float .f32 x] w fun e w' => e = .returned (.bool (decide (x % 2147483648 < 2139095040))) ∧ ∃ q, w' = w.drewN q := by
  have hw := within_any x w hx
  generalize decide (x % 2147483648 < 2139095040) = B at *
  go_enter Tryz.func97, Tryz.ntmps97
  go_wp2_with fail
  refine hw.mono ?_
  rintro e w1 ⟨rfl, q, rfl⟩
  go_wp2_with fail
  go_ret
  exact ⟨rfl, q, rfl⟩
set_option maxRecDepth 100000 in
/-- isCanon. -/
theorem isCanon_any (x : Nat) (w : World) (hx : x < 4294967296) :
    Calls Tryz.prog 44 #[.float .f32 x] w fun e w' => e = .returned (.bool (canB x)) ∧ ∃ q, w' = w.drewN q := by
  have hq := Tryz.feq
  have hfb := Tryz.fbitsO
  by_cases h1 : x % 2147483648 < 2139095040
  · by_cases h2 : x % 2147483648 = 0
    · have HC : Calls Tryz.prog 74 #[.float .f32 x] w fun e w' => e = .returned (.tuple #[.float .f32 0, .int .i64 0]) ∧ ∃ q, w' = w.drewN q := by
        have hz : Op.floatEq .f32 x 0 = true := by
          have := ord_zero x h1
          show (Ieee.single.order x 0 == some .eq) = true
          rw [this, decide_eq_true h2]
        go_enter Tryz.func74, Tryz.ntmps74
        go_wp2_with fail
        refine (isNumber_any x _ hx).mono ?_
        rintro e w1 ⟨rfl, q, rfl⟩
        rw [decide_eq_true h1]
        go_wp2_with fail
        go_ret2
        exact ⟨rfl, q, rfl⟩
      have HC := hide HC
      by_cases h3 : x = 0
      · subst h3
        rw [show canB 0 = true by decide]
        go_enter Tryz.func44, Tryz.ntmps44
        go_wp2_with fail
        refine (unhide HC).mono ?_
        rintro e w1 ⟨rfl, q, rfl⟩
        go_wp2_with fail
        go_ret
        exact ⟨rfl, q, rfl⟩
      · have h4 : ((0 : Int) == (x : Int)) = false := by rw [beq_eq_false_iff_ne]; omega
        have h5 : canB x = false := by
          have : x = 2147483648 := by omega
          subst this
          decide
        rw [h5]
        go_enter Tryz.func44, Tryz.ntmps44
        go_wp2_with fail
        refine (unhide HC).mono ?_
        rintro e w1 ⟨rfl, q, rfl⟩
        go_wp2_with fail
        go_ret
        exact ⟨rfl, q, rfl⟩
    · have HC : Calls Tryz.prog 74 #[.float .f32 x] w fun e w' => e = .returned (.tuple #[.float .f32 x, .int .i64 0]) ∧ ∃ q, w' = w.drewN q := by
        have hz : Op.floatEq .f32 x 0 = false := by
          have := ord_zero x h1
          show (Ieee.single.order x 0 == some .eq) = false
          rw [this, decide_eq_false h2]
        go_enter Tryz.func74, Tryz.ntmps74
        go_wp2_with fail
        refine (isNumber_any x _ hx).mono ?_
        rintro e w1 ⟨rfl, q, rfl⟩
        rw [decide_eq_true h1]
        go_wp2_with fail
        go_ret2
        exact ⟨rfl, q, rfl⟩
      have HC := hide HC
      have h5 : canB x = true := by
        simp only [canB, decide_eq_true h1, Bool.true_and]
        exact decide_eq_true (by omega)
      rw [h5]
      go_enter Tryz.func44, Tryz.ntmps44
      go_wp2_with fail
      refine (unhide HC).mono ?_
      rintro e w1 ⟨rfl, q, rfl⟩
      go_wp2_with fail
      go_ret
      exact ⟨rfl, q, rfl⟩
  · have HC : Calls Tryz.prog 74 #[.float .f32 x] w fun e w' => (∃ c : Int, e = .returned (.tuple #[.float .f32 0, .int .i64 c]) ∧ ¬ c = 0) ∧ ∃ q, w' = w.drewN q := by
      go_enter Tryz.func74, Tryz.ntmps74
      go_wp2_with fail
      refine (isNumber_any x _ hx).mono ?_
      rintro e w1 ⟨rfl, q, rfl⟩
      rw [decide_eq_false h1]
      go_wp2_with fail
      go_ret2
      exact ⟨⟨_, rfl, by decide⟩, q, rfl⟩
    have HC := hide HC
    have h5 : canB x = false := by simp only [canB, decide_eq_false h1, Bool.false_and]
    rw [h5]
    go_enter Tryz.func44, Tryz.ntmps44
    go_wp2_with fail
    refine (unhide HC).mono ?_
    rintro e w1 ⟨⟨c, rfl, hc⟩, q, rfl⟩
    go_wp2_with fail
    go_ret
    exact ⟨rfl, q, rfl⟩
end Go.Proofs.YtjkkonhhnmjcaaaGreatDoor

namespace Go.Proofs.YtjkkonhhnmjcaaaGreatDoor
open Go.RowKit

def F5.cs (f : F5) : Array Value := #[.string f.n, .int .u8 (f.k : Nat), .string f.t, .float .f32 f.v, .int .u8 (f.u : Nat)]
def F5.val (f : F5) : Value := .agg f.cs
set_option maxRecDepth 100000 in
theorem hasQ_any (f : F5) (w : World) :
    Calls Tryz.prog 43 #[f.val] w fun e w' => e = .returned (.bool (!decide (f.v = 0 ∧ f.u = 0))) ∧ Fr (fun _ => False) w w' := by
  obtain ⟨n, k, t, v, u⟩ := f
  have hfb := Tryz.fbitsO
  simp only [F5.val, F5.cs]
  by_cases h1 : v = 0
  · by_cases h2 : u = 0
    · subst h1 h2
      go_enter Tryz.func43, Tryz.ntmps43
      go_wp2_with fail
      go_ret
      exact ⟨rfl, (Fr.refl _ _).alloc _⟩
    · subst h1
      have h3 : ((u : Int) != 0) = true := by simp; omega
      rw [decide_eq_false (by simp [h2])]
      go_enter Tryz.func43, Tryz.ntmps43
      go_wp2_with fail
      go_ret
      exact ⟨rfl, (Fr.refl _ _).alloc _⟩
  · have h3 : ((v : Int) != 0) = true := by simp; omega
    rw [decide_eq_false (by simp [h1])]
    go_enter Tryz.func43, Tryz.ntmps43
    go_wp2_with fail
    go_ret
    exact ⟨rfl, (Fr.refl _ _).alloc _⟩
set_option maxRecDepth 100000 in
theorem units_anyS (w : World) : Calls Tryz.prog 45 #[] w fun e w' => e = .returned (.int .i64 21) ∧ w' = w := by
  go_enter Tryz.func45, Tryz.ntmps45
  go_wp2_with fail
  go_ret
  exact ⟨rfl, rfl⟩
theorem size0 (t : ByteArray) (h : t.size = 0) : t = ⟨#[]⟩ := by
  cases t with
  | mk d => simp [ByteArray.size] at h; subst h; rfl
theorem ba_empty : (ByteArray.mk #[]).size = 0 := rfl
/-- A field in its box. -/
theorem fbox (w W' : World) (f : F5) (ty : TypeId) (hf : Fr (fun _ => False) (w.alloc (.cells f.cs ty)) W') : W'.cell? ⟨w.heap.size, 0, none⟩ = some (.string f.n) ∧ W'.cell? ⟨w.heap.size, 1, none⟩ = some (.int .u8 (f.k : Nat)) ∧ W'.cell? ⟨w.heap.size, 2, none⟩ = some (.string f.t) ∧ W'.cell? ⟨w.heap.size, 3, none⟩ = some (.float .f32 f.v) ∧ W'.cell? ⟨w.heap.size, 4, none⟩ = some (.int .u8 (f.u : Nat)) := by
  have h0 : (w.alloc (.cells f.cs ty)).heap[w.heap.size]? = some (.cells f.cs ty) := Array.getElem?_push_size
  have hb : W'.heap[w.heap.size]? = some (.cells f.cs ty) := by
    rw [hf.block _ (lt_of_block h0) (fun h => h)]
    exact h0
  refine ⟨?_, ?_, ?_, ?_, ?_⟩ <;> (simp only [World.cell?, hb]; rfl)
set_option maxHeartbeats 1000000 in
set_option maxRecDepth 100000 in
theorem isFormed_2a (n : ByteArray) (v u : Nat) (w : World) (hn : n.size ≤ 64) (hv : v < 4294967296) (hc : canB v = true) (hu : 1 ≤ u) (hu2 : u < 256) :
    Calls Tryz.prog 27 #[(F5.mk n 2 ⟨#[]⟩ v u).val] w fun e w' => e = .returned (.bool (decide (u ≤ 21))) ∧ Fr (fun _ => False) w w' := by
  have a1 : ¬ (64 : Int) < (n.size : Int) := by omega
  have a2 : ¬ (64 : Int) < ((ByteArray.mk #[]).size : Int) := by decide
  have a3 : ¬ (u : Int) < 1 := by omega
  have a4 : IntKind.i64.wrap (u : Int) = (u : Int) := by rw [IntKind.wrap_i64]; omega
  have hcast : decide ((u : Int) ≤ 21) = decide (u ≤ 21) := by rw [decide_eq_decide]; omega
  have HC : Hid (∀ W', Calls Tryz.prog 44 #[.float .f32 v] W' fun e w' => e = .returned (.bool true) ∧ ∃ q, w' = W'.drewN q) := fun W' => by
    have := isCanon_any v W' hv
    rw [hc] at this
    exact this
  simp only [F5.val, F5.cs] at *
  go_enter Tryz.func27, Tryz.ntmps27
  go_wp2_with fail
  go_quiet (first | (go_at_call 44; exact Calls.quiet_of ((unhide HC) _)) | (go_at_call 45; exact Calls.quiet_of_same (units_anyS _)))
  go_wp2_with fail
  go_ret
  exact ⟨rfl, (box1S w _).drewN _⟩
set_option maxHeartbeats 1000000 in
set_option maxRecDepth 100000 in
theorem isFormed_2b (n : ByteArray) (v : Nat) (w : World) (hn : n.size ≤ 64) (hv : v < 4294967296) (hc : canB v = true) :
    Calls Tryz.prog 27 #[(F5.mk n 2 ⟨#[]⟩ v 0).val] w fun e w' => e = .returned (.bool false) ∧ Fr (fun _ => False) w w' := by
  have a1 : ¬ (64 : Int) < (n.size : Int) := by omega
  have a2 : ¬ (64 : Int) < ((ByteArray.mk #[]).size : Int) := by decide
  have HC : Hid (∀ W', Calls Tryz.prog 44 #[.float .f32 v] W' fun e w' => e = .returned (.bool true) ∧ ∃ q, w' = W'.drewN q) := fun W' => by
    have := isCanon_any v W' hv
    rw [hc] at this
    exact this
  simp only [F5.val, F5.cs] at *
  go_enter Tryz.func27, Tryz.ntmps27
  go_wp2_with fail
  go_quiet ((go_at_call 44; exact Calls.quiet_of ((unhide HC) _)))
  go_wp2_with fail
  go_ret
  exact ⟨rfl, (box1S w _).drewN _⟩
set_option maxHeartbeats 1000000 in
set_option maxRecDepth 100000 in
theorem isFormed_2c (n : ByteArray) (v u : Nat) (w : World) (hn : n.size ≤ 64) (hv : v < 4294967296) (hc : canB v = false) :
    Calls Tryz.prog 27 #[(F5.mk n 2 ⟨#[]⟩ v u).val] w fun e w' => e = .returned (.bool false) ∧ Fr (fun _ => False) w w' := by
  have a1 : ¬ (64 : Int) < (n.size : Int) := by omega
  have a2 : ¬ (64 : Int) < ((ByteArray.mk #[]).size : Int) := by decide
  have HC : Hid (∀ W', Calls Tryz.prog 44 #[.float .f32 v] W' fun e w' => e = .returned (.bool false) ∧ ∃ q, w' = W'.drewN q) := fun W' => by
    have := isCanon_any v W' hv
    rw [hc] at this
    exact this
  simp only [F5.val, F5.cs] at *
  go_enter Tryz.func27, Tryz.ntmps27
  go_wp2_with fail
  go_quiet ((go_at_call 44; exact Calls.quiet_of ((unhide HC) _)))
  go_wp2_with fail
  go_ret
  exact ⟨rfl, (box1S w _).drewN _⟩
set_option maxHeartbeats 1000000 in
set_option maxRecDepth 100000 in
theorem isFormed_2d (n t : ByteArray) (v u : Nat) (w : World) (hn : n.size ≤ 64) (ht : t.size ≤ 64) (h0 : t.toList.isEmpty = false) :
    Calls Tryz.prog 27 #[(F5.mk n 2 t v u).val] w fun e w' => e = .returned (.bool false) ∧ Fr (fun _ => False) w w' := by
  have a1 : ¬ (64 : Int) < (n.size : Int) := by omega
  have a2 : ¬ (64 : Int) < (t.size : Int) := by omega
  simp only [F5.val, F5.cs] at *
  go_enter Tryz.func27, Tryz.ntmps27
  go_wp2_with fail
  go_quiet (fail)
  go_wp2_with fail
  go_ret
  exact ⟨rfl, (box1S w _).drewN _⟩
set_option maxHeartbeats 1000000 in
set_option maxRecDepth 100000 in
theorem isFormed_1 (n t : ByteArray) (v u : Nat) (w : World) (hn : n.size ≤ 64) (ht : t.size ≤ 64) :
    Calls Tryz.prog 27 #[(F5.mk n 1 t v u).val] w fun e w' => e = .returned (.bool (decide (v = 0 ∧ u = 0))) ∧ Fr (fun _ => False) w w' := by
  have a1 : ¬ (64 : Int) < (n.size : Int) := by omega
  have a2 : ¬ (64 : Int) < (t.size : Int) := by omega
  have hq0 := fun W' => hasQ_any (F5.mk n 1 t v u) W'
  simp only [F5.val, F5.cs] at *
  generalize decide (v = 0 ∧ u = 0) = R at *
  have HQ := hide hq0
  have HF := hide (box1S w (.cells (F5.mk n 1 t v u).cs 70))
  simp only [F5.cs] at HF
  clear hq0
  go_enter Tryz.func27, Tryz.ntmps27
  go_wp2_with fail
  refine ((unhide HQ) _).mono ?_
  rintro e w2 ⟨rfl, hf2⟩
  have H2 := hide ((unhide HF).trans hf2 (fun _ _ h => h))
  clear hf2 HQ HF
  cases R
  all_goals
    go_wp2_with fail
    go_ret
    exact ⟨rfl, unhide H2⟩
set_option maxHeartbeats 1000000 in
set_option maxRecDepth 100000 in
theorem isFormed_3 (n : ByteArray) (v u : Nat) (w : World) (hn : n.size ≤ 64) :
    Calls Tryz.prog 27 #[(F5.mk n 3 ⟨#[]⟩ v u).val] w fun e w' => e = .returned (.bool (decide (v = 0 ∧ u = 0))) ∧ Fr (fun _ => False) w w' := by
  have a1 : ¬ (64 : Int) < (n.size : Int) := by omega
  have a2 : ¬ (64 : Int) < ((ByteArray.mk #[]).size : Int) := by decide
  have hq0 := fun W' => hasQ_any (F5.mk n 3 ⟨#[]⟩ v u) W'
  simp only [F5.val, F5.cs] at *
  generalize decide (v = 0 ∧ u = 0) = R at *
  have HQ := hide hq0
  have HF := hide (box1S w (.cells (F5.mk n 3 ⟨#[]⟩ v u).cs 70))
  simp only [F5.cs] at HF
  clear hq0
  go_enter Tryz.func27, Tryz.ntmps27
  go_wp2_with fail
  refine ((unhide HQ) _).mono ?_
  rintro e w2 ⟨rfl, hf2⟩
  have H2 := hide ((unhide HF).trans hf2 (fun _ _ h => h))
  clear hf2 HQ HF
  cases R
  all_goals
    go_wp2_with fail
    go_ret
    exact ⟨rfl, unhide H2⟩
set_option maxRecDepth 100000 in
theorem isFormed_3d (n t : ByteArray) (v u : Nat) (w : World) (hn : n.size ≤ 64) (ht : t.size ≤ 64) (h0 : t.toList.isEmpty = false) :
    Calls Tryz.prog 27 #[(F5.mk n 3 t v u).val] w fun e w' => e = .returned (.bool false) ∧ Fr (fun _ => False) w w' := by
  have a1 : ¬ (64 : Int) < (n.size : Int) := by omega
  have a2 : ¬ (64 : Int) < (t.size : Int) := by omega
  simp only [F5.val, F5.cs] at *
  go_enter Tryz.func27, Tryz.ntmps27
  go_wp2_with fail
  go_ret
  exact ⟨rfl, box1S w _⟩
set_option maxRecDepth 100000 in
theorem isFormed_k (n t : ByteArray) (k : Nat) (v u : Nat) (w : World) (hn : n.size ≤ 64) (ht : t.size ≤ 64) (h1 : ¬ k = 1) (h2 : ¬ k = 2) (h3 : ¬ k = 3) :
    Calls Tryz.prog 27 #[(F5.mk n k t v u).val] w fun e w' => e = .returned (.bool false) ∧ Fr (fun _ => False) w w' := by
  have a1 : ¬ (64 : Int) < (n.size : Int) := by omega
  have a2 : ¬ (64 : Int) < (t.size : Int) := by omega
  have b1 : ((k : Int) == 1) = false := by rw [beq_eq_false_iff_ne]; omega
  have b2 : ((k : Int) == 2) = false := by rw [beq_eq_false_iff_ne]; omega
  have b3 : ((k : Int) == 3) = false := by rw [beq_eq_false_iff_ne]; omega
  simp only [F5.val, F5.cs] at *
  go_enter Tryz.func27, Tryz.ntmps27
  go_wp2_with fail
  go_ret
  exact ⟨rfl, box1S w _⟩
set_option maxRecDepth 100000 in
theorem isFormed_n (n t : ByteArray) (k : Nat) (v u : Nat) (w : World) (hn : 64 < n.size) :
    Calls Tryz.prog 27 #[(F5.mk n k t v u).val] w fun e w' => e = .returned (.bool false) ∧ Fr (fun _ => False) w w' := by
  have a1 : (64 : Int) < (n.size : Int) := by omega
  simp only [F5.val, F5.cs] at *
  go_enter Tryz.func27, Tryz.ntmps27
  go_wp2_with fail
  go_ret
  exact ⟨rfl, box1S w _⟩
set_option maxRecDepth 100000 in
theorem isFormed_t (n t : ByteArray) (k : Nat) (v u : Nat) (w : World) (hn : n.size ≤ 64) (ht : 64 < t.size) :
    Calls Tryz.prog 27 #[(F5.mk n k t v u).val] w fun e w' => e = .returned (.bool false) ∧ Fr (fun _ => False) w w' := by
  have a1 : ¬ (64 : Int) < (n.size : Int) := by omega
  have a2 : (64 : Int) < (t.size : Int) := by omega
  simp only [F5.val, F5.cs] at *
  go_enter Tryz.func27, Tryz.ntmps27
  go_wp2_with fail
  go_ret
  exact ⟨rfl, box1S w _⟩
theorem emp (t : ByteArray) : t.toList.isEmpty = decide (t.size = 0) := by
  rw [ByteArray.toList_eq]
  cases t with
  | mk d =>
    cases d with
    | mk l => cases l <;> simp [ByteArray.size]
/-- isFormed. -/
theorem isFormed_any (f : F5) (w : World) (hv : f.v < 4294967296) (hu : f.u < 256) :
    Calls Tryz.prog 27 #[f.val] w fun e w' => e = .returned (.bool (fldB f)) ∧ Fr (fun _ => False) w w' := by
  obtain ⟨n, k, t, v, u⟩ := f
  simp only at hv hu
  by_cases h1 : n.size ≤ 64
  · by_cases h2 : t.size ≤ 64
    · have e0 : fldB ⟨n, k, t, v, u⟩ = (if k = 1 then decide (v = 0 ∧ u = 0) else if k = 2 then decide (t.size = 0) && canB v && decide (1 ≤ u ∧ u ≤ 21) else if k = 3 then decide (t.size = 0) && decide (v = 0 ∧ u = 0) else false) := by simp only [fldB, decide_eq_true h1, decide_eq_true h2, Bool.true_and]
      rw [e0]
      by_cases k1 : k = 1
      · subst k1
        rw [if_pos rfl]
        exact isFormed_1 n t v u w h1 h2
      · rw [if_neg k1]
        by_cases k2 : k = 2
        · subst k2
          rw [if_pos rfl]
          by_cases h0 : t.size = 0
          · obtain rfl := size0 t h0
            rw [decide_eq_true h0, Bool.true_and]
            cases hc : canB v
            · exact isFormed_2c n v u w h1 hv hc
            · rw [Bool.true_and]
              by_cases hu1 : 1 ≤ u
              · rw [show decide (1 ≤ u ∧ u ≤ 21) = decide (u ≤ 21) from decide_eq_decide.2 ⟨fun h => h.2, fun h => ⟨hu1, h⟩⟩]
                exact isFormed_2a n v u w h1 hv hc hu1 hu
              · obtain rfl : u = 0 := by omega
                exact isFormed_2b n v w h1 hv hc
          · rw [decide_eq_false h0, Bool.false_and, Bool.false_and]
            exact isFormed_2d n t v u w h1 h2 (by rw [emp, decide_eq_false h0])
        · rw [if_neg k2]
          by_cases k3 : k = 3
          · subst k3
            rw [if_pos rfl]
            by_cases h0 : t.size = 0
            · obtain rfl := size0 t h0
              rw [decide_eq_true h0, Bool.true_and]
              exact isFormed_3 n v u w h1
            · rw [decide_eq_false h0, Bool.false_and]
              exact isFormed_3d n t v u w h1 h2 (by rw [emp, decide_eq_false h0])
          · rw [if_neg k3]
            exact isFormed_k n t k v u w h1 h2 k1 k2 k3
    · rw [show fldB ⟨n, k, t, v, u⟩ = false by simp only [fldB, decide_eq_false h2, Bool.and_false, Bool.false_and]]
      exact isFormed_t n t k v u w h1 (by omega)
  · rw [show fldB ⟨n, k, t, v, u⟩ = false by simp only [fldB, decide_eq_false h1, Bool.false_and]]
    exact isFormed_n n t k v u w (by omega)
end Go.Proofs.YtjkkonhhnmjcaaaGreatDoor

namespace Go.Proofs.YtjkkonhhnmjcaaaGreatDoor
open Go.RowKit

theorem Tryz.leqS (v a : ByteArray) (w : World) : (binOp .leq 9 (.string v) (.string a)).run Tryz.prog w = .ok (.bool (sleB v a)) w := by simp [binOp, Op.stringOp, sleB]
set_option maxHeartbeats 2000000 in
set_option maxRecDepth 100000 in
theorem areFormed_any (x : Value) (l : List F5) (gone : Bool) (w : World) (hx : Fds w x l) (hl : l.length ≤ 140737488355328) (hv : ∀ f ∈ l, f.v < 4294967296 ∧ f.u < 256) :
    Calls Tryz.prog 18 #[x, .bool gone] w fun e w' => e = .returned (.bool (fdsB l gone)) ∧ Fr (fun _ => False) w w' := by
  obtain ⟨xo, xc, rfl⟩ := hx.form
  have HX := hide hx
  clear hx
  by_cases h32 : (32 : Int) < (l.length : Int)
  · rw [show fdsB l gone = false by simp only [fdsB, decide_eq_false (show ¬ l.length ≤ 32 by omega), Bool.false_and]]
    go_enter Tryz.func18, Tryz.ntmps18
    go_wp2_with fail
    go_ret
    exact ⟨rfl, Fr.refl _ _⟩
  · rw [show fdsB l gone = risB gone ⟨#[]⟩ l by simp only [fdsB, decide_eq_true (show l.length ≤ 32 by omega), Bool.true_and]]
    go_enter Tryz.func18, Tryz.ntmps18
    go_wp2_with fail
    go_loopw [5, 13] (fun av iv wr => ∃ (j : Nat) (a : ByteArray), j ≤ l.length ∧ av = .string a ∧ iv = .int .i64 (j : Nat) ∧ risB gone ⟨#[]⟩ l = risB gone a (l.drop j) ∧ Fr (fun _ => False) w wr) (fun _ iv _ => l.length - (intOf iv).toNat)
    case atStart => exact ⟨0, _, Nat.zero_le _, rfl, rfl, by simp, Fr.refl _ _⟩
    case round =>
      obtain ⟨j, a, hj, rfl, rfl, hr, hf⟩ := hrel
      by_cases hlt : j < l.length
      · obtain ⟨g, o, rfl, c0, c1, c2, c3, c4⟩ := ((unhide HX).fr hf).at_ j hlt
        have hvj := hv l[j] (List.getElem_mem hlt)
        have hdr : l.drop j = l[j] :: l.drop (j + 1) := List.drop_eq_getElem_cons hlt
        rw [hdr] at hr
        generalize l[j] = f at c0 c1 c2 c3 c4 hvj hr
        have hi1 : (j : Int) < (l.length : Int) := by omega
        have HR := hide (And.intro hr hf)
        clear hr hf hdr
        have hleq := Tryz.leqS
        cases hs : sleB f.n a with
        | true =>
          go_wp2_with fail
          go_ret
          refine ⟨?_, (unhide HR).2.trans (box1S wr _) (fun _ _ h => h)⟩
          rw [(unhide HR).1, risB, hs]
          rfl
        | false =>
          have HC := hide (fun W' => isFormed_any f W' hvj.1 hvj.2)
          have HB := hide (fun W' => fbox wr W' f 70)
          have HN := hide hs
          simp only [F5.val, F5.cs] at HC HB
          go_wp2_with fail
          refine ((unhide HC) _).mono ?_
          rintro e w2 ⟨rfl, hf2⟩
          obtain ⟨b0, b1, b2, b3, b4⟩ := (unhide HB) w2 hf2
          have H2 := hide (((unhide HR).2.trans (box1S wr _) (fun _ _ h => h)).trans hf2 (fun _ _ h => h))
          have hb2 : wr.heap.size < w2.heap.size := lt_of_cell b0
          clear HC HB hf2
          cases hfl : fldB f with
          | false =>
            go_wp2_with fail
            go_ret
            refine ⟨?_, unhide H2⟩
            rw [(unhide HR).1, risB, unhide HN, hfl]
            rfl
          | true =>
            by_cases hk3 : f.k = 3
            · have b3' : ((f.k : Int) == 3) = true := by rw [hk3]; rfl
              rcases Bool.eq_false_or_eq_true gone with hg | hg
              · subst hg
                go_wp2_with fail
                refine ⟨⟨j + 1, f.n, by omega, rfl, by go_num, ?_, unhide H2⟩, by simp [intOf]; omega⟩
                rw [(unhide HR).1, risB, unhide HN, hfl, hk3]
                rfl
              · subst hg
                go_wp2_with fail
                go_ret
                refine ⟨?_, unhide H2⟩
                rw [(unhide HR).1, risB, unhide HN, hfl, hk3]
                rfl
            · have b3' : ((f.k : Int) == 3) = false := by rw [beq_eq_false_iff_ne]; omega
              go_wp2_with fail
              refine ⟨⟨j + 1, f.n, by omega, rfl, by go_num, ?_, unhide H2⟩, by simp [intOf]; omega⟩
              rw [(unhide HR).1, risB, unhide HN, hfl, decide_eq_true (show f.k ≠ 3 from hk3)]
              rfl
      · go_wp2_with fail
        go_ret
        refine ⟨?_, hf⟩
        rw [hr, List.drop_eq_nil_of_le (by omega)]
        rfl
end Go.Proofs.YtjkkonhhnmjcaaaGreatDoor

namespace Go.Proofs.YtjkkonhhnmjcaaaGreatDoor
open Go.RowKit

/-- A row just made. -/
theorem range_new (W : World) (cs : List Value) (t : TypeId) (b : Nat) (hb : b = W.heap.size) : (W.alloc (.cells cs.toArray t)).rangeAt b 0 cs := by
  subst hb
  intro j v hv
  rw [World.cell?_alloc_at _ _ _ _ rfl, Nat.zero_add]
  show cs.toArray[j]? = some v
  rw [List.getElem?_toArray]
  exact hv
set_option maxHeartbeats 1000000 in
set_option maxRecDepth 100000 in
theorem unused_1 (cl nu ac rc ve wa ow : Nat) (rs : ByteArray) (xo : Option Addr) (n xc : Nat) (w : World) :
    Calls Tryz.prog 17 #[(RQ.mk cl nu ac 1 rc ve wa ow (.slice xo n xc) rs).v] w fun e w' => e = .returned (RQ.mk cl nu ac 1 rc ve 0 0 (.slice none 0 0) rs).v ∧ Fr (fun _ => False) w w' := by
  simp only [RQ.v]
  go_enter Tryz.func17, Tryz.ntmps17
  go_wp2_with fail
  refine bodyPost_ret (results_cell_mid rfl _ _ (w.heap.size + 1) 0 [.int .u32 (cl : Nat), .int .u32 (nu : Nat), .int .u32 (ac : Nat), .int .u8 (1 : Nat), .int .u32 (rc : Nat), .int .u32 (ve : Nat), .int .u32 (0 : Nat), .int .u32 (0 : Nat), .slice none 0 0, .string rs] _ rfl (range_new _ _ _ _ (by simp)) Tryz.underlying27 rfl (by kernel_rfl)) rfl ?_
  exact ⟨rfl, (box1S w _).trans (box1S _ _) (fun _ _ h => h)⟩
set_option maxHeartbeats 1000000 in
set_option maxRecDepth 100000 in
theorem unused_2 (cl nu ac rc ve wa ow : Nat) (rs : ByteArray) (xo : Option Addr) (n xc : Nat) (w : World) :
    Calls Tryz.prog 17 #[(RQ.mk cl nu ac 2 rc ve wa ow (.slice xo n xc) rs).v] w fun e w' => e = .returned (RQ.mk cl nu ac 2 0 0 wa ow (.slice none 0 0) rs).v ∧ Fr (fun _ => False) w w' := by
  simp only [RQ.v]
  go_enter Tryz.func17, Tryz.ntmps17
  go_wp2_with fail
  refine bodyPost_ret (results_cell_mid rfl _ _ (w.heap.size + 1) 0 [.int .u32 (cl : Nat), .int .u32 (nu : Nat), .int .u32 (ac : Nat), .int .u8 (2 : Nat), .int .u32 (0 : Nat), .int .u32 (0 : Nat), .int .u32 (wa : Nat), .int .u32 (ow : Nat), .slice none 0 0, .string rs] _ rfl (range_new _ _ _ _ (by simp)) Tryz.underlying27 rfl (by kernel_rfl)) rfl ?_
  exact ⟨rfl, (box1S w _).trans (box1S _ _) (fun _ _ h => h)⟩
set_option maxHeartbeats 1000000 in
set_option maxRecDepth 100000 in
theorem unused_3 (cl nu ac rc ve wa ow : Nat) (rs : ByteArray) (xo : Option Addr) (n xc : Nat) (w : World) :
    Calls Tryz.prog 17 #[(RQ.mk cl nu ac 3 rc ve wa ow (.slice xo n xc) rs).v] w fun e w' => e = .returned (RQ.mk cl nu ac 3 0 0 wa ow (.slice xo n xc) rs).v ∧ Fr (fun _ => False) w w' := by
  simp only [RQ.v]
  go_enter Tryz.func17, Tryz.ntmps17
  go_wp2_with fail
  refine bodyPost_ret (results_cell_mid rfl _ _ (w.heap.size + 1) 0 [.int .u32 (cl : Nat), .int .u32 (nu : Nat), .int .u32 (ac : Nat), .int .u8 (3 : Nat), .int .u32 (0 : Nat), .int .u32 (0 : Nat), .int .u32 (wa : Nat), .int .u32 (ow : Nat), .slice xo n xc, .string rs] _ rfl (range_new _ _ _ _ (by simp)) Tryz.underlying27 rfl (by kernel_rfl)) rfl ?_
  exact ⟨rfl, (box1S w _).trans (box1S _ _) (fun _ _ h => h)⟩
set_option maxHeartbeats 1000000 in
set_option maxRecDepth 100000 in
theorem unused_4 (cl nu ac rc ve wa ow : Nat) (rs : ByteArray) (xo : Option Addr) (n xc : Nat) (w : World) :
    Calls Tryz.prog 17 #[(RQ.mk cl nu ac 4 rc ve wa ow (.slice xo n xc) rs).v] w fun e w' => e = .returned (RQ.mk cl nu ac 4 0 0 wa ow (.slice xo n xc) rs).v ∧ Fr (fun _ => False) w w' := by
  simp only [RQ.v]
  go_enter Tryz.func17, Tryz.ntmps17
  go_wp2_with fail
  refine bodyPost_ret (results_cell_mid rfl _ _ (w.heap.size + 1) 0 [.int .u32 (cl : Nat), .int .u32 (nu : Nat), .int .u32 (ac : Nat), .int .u8 (4 : Nat), .int .u32 (0 : Nat), .int .u32 (0 : Nat), .int .u32 (wa : Nat), .int .u32 (ow : Nat), .slice xo n xc, .string rs] _ rfl (range_new _ _ _ _ (by simp)) Tryz.underlying27 rfl (by kernel_rfl)) rfl ?_
  exact ⟨rfl, (box1S w _).trans (box1S _ _) (fun _ _ h => h)⟩
set_option maxHeartbeats 1000000 in
set_option maxRecDepth 100000 in
theorem unused_5 (cl nu ac rc ve wa ow : Nat) (rs : ByteArray) (xo : Option Addr) (n xc : Nat) (w : World) :
    Calls Tryz.prog 17 #[(RQ.mk cl nu ac 5 rc ve wa ow (.slice xo n xc) rs).v] w fun e w' => e = .returned (RQ.mk cl nu ac 5 0 ve wa ow (.slice xo n xc) rs).v ∧ Fr (fun _ => False) w w' := by
  simp only [RQ.v]
  go_enter Tryz.func17, Tryz.ntmps17
  go_wp2_with fail
  refine bodyPost_ret (results_cell_mid rfl _ _ (w.heap.size + 1) 0 [.int .u32 (cl : Nat), .int .u32 (nu : Nat), .int .u32 (ac : Nat), .int .u8 (5 : Nat), .int .u32 (0 : Nat), .int .u32 (ve : Nat), .int .u32 (wa : Nat), .int .u32 (ow : Nat), .slice xo n xc, .string rs] _ rfl (range_new _ _ _ _ (by simp)) Tryz.underlying27 rfl (by kernel_rfl)) rfl ?_
  exact ⟨rfl, (box1S w _).trans (box1S _ _) (fun _ _ h => h)⟩
set_option maxHeartbeats 1000000 in
set_option maxRecDepth 100000 in
theorem unused_6 (cl nu ac rc ve wa ow : Nat) (rs : ByteArray) (xo : Option Addr) (n xc : Nat) (w : World) :
    Calls Tryz.prog 17 #[(RQ.mk cl nu ac 6 rc ve wa ow (.slice xo n xc) rs).v] w fun e w' => e = .returned (RQ.mk cl nu ac 6 0 0 wa ow (.slice xo n xc) rs).v ∧ Fr (fun _ => False) w w' := by
  simp only [RQ.v]
  go_enter Tryz.func17, Tryz.ntmps17
  go_wp2_with fail
  refine bodyPost_ret (results_cell_mid rfl _ _ (w.heap.size + 1) 0 [.int .u32 (cl : Nat), .int .u32 (nu : Nat), .int .u32 (ac : Nat), .int .u8 (6 : Nat), .int .u32 (0 : Nat), .int .u32 (0 : Nat), .int .u32 (wa : Nat), .int .u32 (ow : Nat), .slice xo n xc, .string rs] _ rfl (range_new _ _ _ _ (by simp)) Tryz.underlying27 rfl (by kernel_rfl)) rfl ?_
  exact ⟨rfl, (box1S w _).trans (box1S _ _) (fun _ _ h => h)⟩
set_option maxHeartbeats 1000000 in
set_option maxRecDepth 100000 in
theorem unused_7 (cl nu ac rc ve wa ow : Nat) (rs : ByteArray) (xo : Option Addr) (n xc : Nat) (w : World) :
    Calls Tryz.prog 17 #[(RQ.mk cl nu ac 7 rc ve wa ow (.slice xo n xc) rs).v] w fun e w' => e = .returned (RQ.mk cl nu ac 7 0 ve wa ow (.slice xo n xc) ⟨#[]⟩).v ∧ Fr (fun _ => False) w w' := by
  simp only [RQ.v]
  go_enter Tryz.func17, Tryz.ntmps17
  go_wp2_with fail
  refine bodyPost_ret (results_cell_mid rfl _ _ (w.heap.size + 1) 0 [.int .u32 (cl : Nat), .int .u32 (nu : Nat), .int .u32 (ac : Nat), .int .u8 (7 : Nat), .int .u32 (0 : Nat), .int .u32 (ve : Nat), .int .u32 (wa : Nat), .int .u32 (ow : Nat), .slice xo n xc, .string ⟨#[]⟩] _ rfl (range_new _ _ _ _ (by simp)) Tryz.underlying27 rfl (by kernel_rfl)) rfl ?_
  exact ⟨rfl, (box1S w _).trans (box1S _ _) (fun _ _ h => h)⟩
/-- Is a request empty but for who asks? -/
def RQ.emp (r : RQ) (n : Nat) : Bool := decide (r.rc = 0) && (decide (r.ve = 0) && (decide (r.wa = 0) && (decide (r.ow = 0) && (decide (n = 0) && decide (r.rs.size = 0)))))
set_option maxHeartbeats 4000000 in
set_option maxRecDepth 100000 in
theorem isEmpty_any (cl nu ac op rc ve wa ow : Nat) (rs : ByteArray) (xo : Option Addr) (n xc : Nat) (w : World) :
    Calls Tryz.prog 16 #[(RQ.mk cl nu ac op rc ve wa ow (.slice xo n xc) rs).v] w fun e w' => e = .returned (.bool ((RQ.mk cl nu ac op rc ve wa ow (.slice xo n xc) rs).emp n)) ∧ Fr (fun _ => False) w w' := by
  simp only [RQ.v, RQ.emp]
  by_cases h0 : rc = 0
  rotate_left
  · have e0 : ((rc : Int) == 0) = false := by rw [beq_eq_false_iff_ne]; omega
    rw [decide_eq_false h0]
    simp only [Bool.false_and]
    go_enter Tryz.func16, Tryz.ntmps16
    go_wp2_with fail
    go_ret
    exact ⟨rfl, box1S w _⟩
  subst h0
  simp only [decide_true, Bool.true_and]
  by_cases h1 : ve = 0
  rotate_left
  · have e1 : ((ve : Int) == 0) = false := by rw [beq_eq_false_iff_ne]; omega
    rw [decide_eq_false h1]
    simp only [Bool.false_and]
    go_enter Tryz.func16, Tryz.ntmps16
    go_wp2_with fail
    go_ret
    exact ⟨rfl, box1S w _⟩
  subst h1
  simp only [decide_true, Bool.true_and]
  by_cases h2 : wa = 0
  rotate_left
  · have e2 : ((wa : Int) == 0) = false := by rw [beq_eq_false_iff_ne]; omega
    rw [decide_eq_false h2]
    simp only [Bool.false_and]
    go_enter Tryz.func16, Tryz.ntmps16
    go_wp2_with fail
    go_ret
    exact ⟨rfl, box1S w _⟩
  subst h2
  simp only [decide_true, Bool.true_and]
  by_cases h3 : ow = 0
  rotate_left
  · have e3 : ((ow : Int) == 0) = false := by rw [beq_eq_false_iff_ne]; omega
    rw [decide_eq_false h3]
    simp only [Bool.false_and]
    go_enter Tryz.func16, Tryz.ntmps16
    go_wp2_with fail
    go_ret
    exact ⟨rfl, box1S w _⟩
  subst h3
  simp only [decide_true, Bool.true_and]
  by_cases h4 : n = 0
  rotate_left
  · have e4 : ((n : Int) == 0) = false := by rw [beq_eq_false_iff_ne]; omega
    rw [decide_eq_false h4]
    simp only [Bool.false_and]
    go_enter Tryz.func16, Tryz.ntmps16
    go_wp2_with fail
    go_ret
    exact ⟨rfl, box1S w _⟩
  subst h4
  simp only [decide_true, Bool.true_and]
  rw [← emp]
  go_enter Tryz.func16, Tryz.ntmps16
  go_wp2_with fail
  go_ret
  exact ⟨rfl, box1S w _⟩
end Go.Proofs.YtjkkonhhnmjcaaaGreatDoor

namespace Go.Proofs.YtjkkonhhnmjcaaaGreatDoor
open Go.RowKit

/-- A request in its box. -/
theorem rbox (w W' : World) (r : RQ) (ty : TypeId) (cs : Array Value) (_hcs : r.v = .agg cs) (hf : Fr (fun _ => False) (w.alloc (.cells cs ty)) W') : W'.heap[w.heap.size]? = some (.cells cs ty) := by
  have h0 : (w.alloc (.cells cs ty)).heap[w.heap.size]? = some (.cells cs ty) := Array.getElem?_push_size
  rw [hf.block _ (lt_of_block h0) (fun h => h)]
  exact h0
set_option maxHeartbeats 2000000 in
set_option maxRecDepth 100000 in
theorem formed_1 (cl nu ac rc ve wa ow : Nat) (rs : ByteArray) (xo : Option Addr) (n xc : Nat) (l : List F5) (w : World) (hx : Fds w (.slice xo n xc) l) (hl : l.length ≤ 140737488355328) (hv : ∀ f ∈ l, f.v < 4294967296 ∧ f.u < 256) :
    Calls Tryz.prog 8 #[(RQ.mk cl nu ac 1 rc ve wa ow (.slice xo n xc) rs).v] w fun e w' => e = .returned (.bool ((RQ.mk cl nu ac 1 rc ve 0 0 (.slice none 0 0) rs).emp 0 && (decide (rs.size ≤ 64) && fdsB l false))) ∧ Fr (fun _ => False) w w' := by
  have HU := hide (fun W' => unused_1 cl nu ac rc ve wa ow rs xo n xc W')
  have HE := hide (fun W' => isEmpty_any cl nu ac 1 rc ve 0 0 rs none 0 0 W')
  have HA : Hid (∀ W', Fr (fun _ => False) w W' → Calls Tryz.prog 18 #[.slice xo n xc, .bool false] W' fun e w' => e = .returned (.bool (fdsB l false)) ∧ Fr (fun _ => False) W' w') := fun W' hf => areFormed_any _ l false W' (hx.fr hf) hl hv
  have HB : Hid (∀ W', Fr (fun _ => False) (w.alloc (.cells #[.int .u32 (cl : Nat), .int .u32 (nu : Nat), .int .u32 (ac : Nat), .int .u8 1, .int .u32 (rc : Nat), .int .u32 (ve : Nat), .int .u32 (wa : Nat), .int .u32 (ow : Nat), .slice xo n xc, .string rs] 27)) W' → W'.cell? ⟨w.heap.size, 3, none⟩ = some (.int .u8 1) ∧ W'.cell? ⟨w.heap.size, 5, none⟩ = some (.int .u32 (ve : Nat)) ∧ W'.cell? ⟨w.heap.size, 8, none⟩ = some (.slice xo n xc) ∧ W'.cell? ⟨w.heap.size, 9, none⟩ = some (.string rs)) := fun W' hf => by
    have hb := rbox w W' (RQ.mk cl nu ac 1 rc ve wa ow (.slice xo n xc) rs) 27 _ rfl hf
    refine ⟨?_, ?_, ?_, ?_⟩ <;> (simp only [World.cell?, hb]; rfl)
  generalize (RQ.mk cl nu ac 1 rc ve 0 0 (.slice none 0 0) rs).emp 0 = E at *
  generalize fdsB l false = A at *
  simp only [RQ.v] at *
  clear hx hl hv
  go_enter Tryz.func8, Tryz.ntmps8
  go_wp2_with fail
  refine ((unhide HU) _).mono ?_
  rintro e w2 ⟨rfl, hf2⟩
  have H2 := hide hf2
  clear hf2
  go_wp2_with fail
  refine ((unhide HE) _).mono ?_
  rintro e w3 ⟨rfl, hf3⟩
  obtain ⟨b3, b5, b8, b9⟩ := (unhide HB) w3 ((unhide H2).trans hf3 (fun _ _ h => h))
  have H3 := hide ((box1S w (.cells #[.int .u32 (cl : Nat), .int .u32 (nu : Nat), .int .u32 (ac : Nat), .int .u8 1, .int .u32 (rc : Nat), .int .u32 (ve : Nat), .int .u32 (wa : Nat), .int .u32 (ow : Nat), .slice xo n xc, .string rs] 27)).trans ((unhide H2).trans hf3 (fun _ _ h => h)) (fun _ _ h => h))
  clear hf3 H2 HU HE HB
  cases E
  · go_wp2_with fail
    go_ret
    exact ⟨rfl, unhide H3⟩
  · skip
    rcases Nat.lt_or_ge 64 rs.size with h64 | h64
    · have q64 : ¬ (rs.size : Int) ≤ 64 := by omega
      have d64 : decide ((rs.size : Int) ≤ 64) = false := decide_eq_false q64
      go_wp2_with fail
      go_ret
      exact ⟨by rw [decide_eq_false (show ¬ rs.size ≤ 64 by omega)]; rfl, unhide H3⟩
    · have q64 : (rs.size : Int) ≤ 64 := by omega
      go_wp2_with fail
      refine ((unhide HA) _ (unhide H3)).mono ?_
      rintro e w4 ⟨rfl, hf4⟩
      have H4 := hide ((unhide H3).trans hf4 (fun _ _ h => h))
      clear hf4
      go_wp2_with fail
      go_ret
      exact ⟨by rw [decide_eq_true (show rs.size ≤ 64 by omega)]; rfl, unhide H4⟩
set_option maxHeartbeats 2000000 in
set_option maxRecDepth 100000 in
theorem formed_2 (cl nu ac rc ve wa ow : Nat) (rs : ByteArray) (xo : Option Addr) (n xc : Nat) (l : List F5) (w : World) (hx : Fds w (.slice xo n xc) l) (hl : l.length ≤ 140737488355328) (hv : ∀ f ∈ l, f.v < 4294967296 ∧ f.u < 256) :
    Calls Tryz.prog 8 #[(RQ.mk cl nu ac 2 rc ve wa ow (.slice xo n xc) rs).v] w fun e w' => e = .returned (.bool ((RQ.mk cl nu ac 2 0 0 wa ow (.slice none 0 0) rs).emp 0 && (decide (rs.size ≤ 64) && fdsB l true))) ∧ Fr (fun _ => False) w w' := by
  have HU := hide (fun W' => unused_2 cl nu ac rc ve wa ow rs xo n xc W')
  have HE := hide (fun W' => isEmpty_any cl nu ac 2 0 0 wa ow rs none 0 0 W')
  have HA : Hid (∀ W', Fr (fun _ => False) w W' → Calls Tryz.prog 18 #[.slice xo n xc, .bool true] W' fun e w' => e = .returned (.bool (fdsB l true)) ∧ Fr (fun _ => False) W' w') := fun W' hf => areFormed_any _ l true W' (hx.fr hf) hl hv
  have HB : Hid (∀ W', Fr (fun _ => False) (w.alloc (.cells #[.int .u32 (cl : Nat), .int .u32 (nu : Nat), .int .u32 (ac : Nat), .int .u8 2, .int .u32 (rc : Nat), .int .u32 (ve : Nat), .int .u32 (wa : Nat), .int .u32 (ow : Nat), .slice xo n xc, .string rs] 27)) W' → W'.cell? ⟨w.heap.size, 3, none⟩ = some (.int .u8 2) ∧ W'.cell? ⟨w.heap.size, 5, none⟩ = some (.int .u32 (ve : Nat)) ∧ W'.cell? ⟨w.heap.size, 8, none⟩ = some (.slice xo n xc) ∧ W'.cell? ⟨w.heap.size, 9, none⟩ = some (.string rs)) := fun W' hf => by
    have hb := rbox w W' (RQ.mk cl nu ac 2 rc ve wa ow (.slice xo n xc) rs) 27 _ rfl hf
    refine ⟨?_, ?_, ?_, ?_⟩ <;> (simp only [World.cell?, hb]; rfl)
  generalize (RQ.mk cl nu ac 2 0 0 wa ow (.slice none 0 0) rs).emp 0 = E at *
  generalize fdsB l true = A at *
  simp only [RQ.v] at *
  clear hx hl hv
  go_enter Tryz.func8, Tryz.ntmps8
  go_wp2_with fail
  refine ((unhide HU) _).mono ?_
  rintro e w2 ⟨rfl, hf2⟩
  have H2 := hide hf2
  clear hf2
  go_wp2_with fail
  refine ((unhide HE) _).mono ?_
  rintro e w3 ⟨rfl, hf3⟩
  obtain ⟨b3, b5, b8, b9⟩ := (unhide HB) w3 ((unhide H2).trans hf3 (fun _ _ h => h))
  have H3 := hide ((box1S w (.cells #[.int .u32 (cl : Nat), .int .u32 (nu : Nat), .int .u32 (ac : Nat), .int .u8 2, .int .u32 (rc : Nat), .int .u32 (ve : Nat), .int .u32 (wa : Nat), .int .u32 (ow : Nat), .slice xo n xc, .string rs] 27)).trans ((unhide H2).trans hf3 (fun _ _ h => h)) (fun _ _ h => h))
  clear hf3 H2 HU HE HB
  cases E
  · go_wp2_with fail
    go_ret
    exact ⟨rfl, unhide H3⟩
  · skip
    rcases Nat.lt_or_ge 64 rs.size with h64 | h64
    · have q64 : ¬ (rs.size : Int) ≤ 64 := by omega
      have d64 : decide ((rs.size : Int) ≤ 64) = false := decide_eq_false q64
      go_wp2_with fail
      go_ret
      exact ⟨by rw [decide_eq_false (show ¬ rs.size ≤ 64 by omega)]; rfl, unhide H3⟩
    · have q64 : (rs.size : Int) ≤ 64 := by omega
      go_wp2_with fail
      refine ((unhide HA) _ (unhide H3)).mono ?_
      rintro e w4 ⟨rfl, hf4⟩
      have H4 := hide ((unhide H3).trans hf4 (fun _ _ h => h))
      clear hf4
      go_wp2_with fail
      go_ret
      exact ⟨by rw [decide_eq_true (show rs.size ≤ 64 by omega)]; rfl, unhide H4⟩
set_option maxHeartbeats 2000000 in
set_option maxRecDepth 100000 in
theorem formed_3 (cl nu ac rc ve wa ow : Nat) (rs : ByteArray) (xo : Option Addr) (n xc : Nat) (l : List F5) (w : World) (hx : Fds w (.slice xo n xc) l) (hl : l.length ≤ 140737488355328) (hv : ∀ f ∈ l, f.v < 4294967296 ∧ f.u < 256) :
    Calls Tryz.prog 8 #[(RQ.mk cl nu ac 3 rc ve wa ow (.slice xo n xc) rs).v] w fun e w' => e = .returned (.bool ((RQ.mk cl nu ac 3 0 0 wa ow (.slice xo n xc) rs).emp n && (decide (rs.size ≤ 64) && fdsB l false))) ∧ Fr (fun _ => False) w w' := by
  have HU := hide (fun W' => unused_3 cl nu ac rc ve wa ow rs xo n xc W')
  have HE := hide (fun W' => isEmpty_any cl nu ac 3 0 0 wa ow rs xo n xc W')
  have HA : Hid (∀ W', Fr (fun _ => False) w W' → Calls Tryz.prog 18 #[.slice xo n xc, .bool false] W' fun e w' => e = .returned (.bool (fdsB l false)) ∧ Fr (fun _ => False) W' w') := fun W' hf => areFormed_any _ l false W' (hx.fr hf) hl hv
  have HB : Hid (∀ W', Fr (fun _ => False) (w.alloc (.cells #[.int .u32 (cl : Nat), .int .u32 (nu : Nat), .int .u32 (ac : Nat), .int .u8 3, .int .u32 (rc : Nat), .int .u32 (ve : Nat), .int .u32 (wa : Nat), .int .u32 (ow : Nat), .slice xo n xc, .string rs] 27)) W' → W'.cell? ⟨w.heap.size, 3, none⟩ = some (.int .u8 3) ∧ W'.cell? ⟨w.heap.size, 5, none⟩ = some (.int .u32 (ve : Nat)) ∧ W'.cell? ⟨w.heap.size, 8, none⟩ = some (.slice xo n xc) ∧ W'.cell? ⟨w.heap.size, 9, none⟩ = some (.string rs)) := fun W' hf => by
    have hb := rbox w W' (RQ.mk cl nu ac 3 rc ve wa ow (.slice xo n xc) rs) 27 _ rfl hf
    refine ⟨?_, ?_, ?_, ?_⟩ <;> (simp only [World.cell?, hb]; rfl)
  generalize (RQ.mk cl nu ac 3 0 0 wa ow (.slice xo n xc) rs).emp n = E at *
  generalize fdsB l false = A at *
  simp only [RQ.v] at *
  clear hx hl hv
  go_enter Tryz.func8, Tryz.ntmps8
  go_wp2_with fail
  refine ((unhide HU) _).mono ?_
  rintro e w2 ⟨rfl, hf2⟩
  have H2 := hide hf2
  clear hf2
  go_wp2_with fail
  refine ((unhide HE) _).mono ?_
  rintro e w3 ⟨rfl, hf3⟩
  obtain ⟨b3, b5, b8, b9⟩ := (unhide HB) w3 ((unhide H2).trans hf3 (fun _ _ h => h))
  have H3 := hide ((box1S w (.cells #[.int .u32 (cl : Nat), .int .u32 (nu : Nat), .int .u32 (ac : Nat), .int .u8 3, .int .u32 (rc : Nat), .int .u32 (ve : Nat), .int .u32 (wa : Nat), .int .u32 (ow : Nat), .slice xo n xc, .string rs] 27)).trans ((unhide H2).trans hf3 (fun _ _ h => h)) (fun _ _ h => h))
  clear hf3 H2 HU HE HB
  cases E
  · go_wp2_with fail
    go_ret
    exact ⟨rfl, unhide H3⟩
  · skip
    rcases Nat.lt_or_ge 64 rs.size with h64 | h64
    · have q64 : ¬ (rs.size : Int) ≤ 64 := by omega
      have d64 : decide ((rs.size : Int) ≤ 64) = false := decide_eq_false q64
      go_wp2_with fail
      go_ret
      exact ⟨by rw [decide_eq_false (show ¬ rs.size ≤ 64 by omega)]; rfl, unhide H3⟩
    · have q64 : (rs.size : Int) ≤ 64 := by omega
      go_wp2_with fail
      refine ((unhide HA) _ (unhide H3)).mono ?_
      rintro e w4 ⟨rfl, hf4⟩
      have H4 := hide ((unhide H3).trans hf4 (fun _ _ h => h))
      clear hf4
      go_wp2_with fail
      go_ret
      exact ⟨by rw [decide_eq_true (show rs.size ≤ 64 by omega)]; rfl, unhide H4⟩
set_option maxHeartbeats 2000000 in
set_option maxRecDepth 100000 in
theorem formed_4 (cl nu ac rc ve wa ow : Nat) (rs : ByteArray) (xo : Option Addr) (n xc : Nat) (l : List F5) (w : World) (hx : Fds w (.slice xo n xc) l) (hl : l.length ≤ 140737488355328) (hv : ∀ f ∈ l, f.v < 4294967296 ∧ f.u < 256) :
    Calls Tryz.prog 8 #[(RQ.mk cl nu ac 4 rc ve wa ow (.slice xo n xc) rs).v] w fun e w' => e = .returned (.bool ((RQ.mk cl nu ac 4 0 0 wa ow (.slice xo n xc) rs).emp n && (decide (rs.size ≤ 64) && fdsB l false))) ∧ Fr (fun _ => False) w w' := by
  have HU := hide (fun W' => unused_4 cl nu ac rc ve wa ow rs xo n xc W')
  have HE := hide (fun W' => isEmpty_any cl nu ac 4 0 0 wa ow rs xo n xc W')
  have HA : Hid (∀ W', Fr (fun _ => False) w W' → Calls Tryz.prog 18 #[.slice xo n xc, .bool false] W' fun e w' => e = .returned (.bool (fdsB l false)) ∧ Fr (fun _ => False) W' w') := fun W' hf => areFormed_any _ l false W' (hx.fr hf) hl hv
  have HB : Hid (∀ W', Fr (fun _ => False) (w.alloc (.cells #[.int .u32 (cl : Nat), .int .u32 (nu : Nat), .int .u32 (ac : Nat), .int .u8 4, .int .u32 (rc : Nat), .int .u32 (ve : Nat), .int .u32 (wa : Nat), .int .u32 (ow : Nat), .slice xo n xc, .string rs] 27)) W' → W'.cell? ⟨w.heap.size, 3, none⟩ = some (.int .u8 4) ∧ W'.cell? ⟨w.heap.size, 5, none⟩ = some (.int .u32 (ve : Nat)) ∧ W'.cell? ⟨w.heap.size, 8, none⟩ = some (.slice xo n xc) ∧ W'.cell? ⟨w.heap.size, 9, none⟩ = some (.string rs)) := fun W' hf => by
    have hb := rbox w W' (RQ.mk cl nu ac 4 rc ve wa ow (.slice xo n xc) rs) 27 _ rfl hf
    refine ⟨?_, ?_, ?_, ?_⟩ <;> (simp only [World.cell?, hb]; rfl)
  generalize (RQ.mk cl nu ac 4 0 0 wa ow (.slice xo n xc) rs).emp n = E at *
  generalize fdsB l false = A at *
  simp only [RQ.v] at *
  clear hx hl hv
  go_enter Tryz.func8, Tryz.ntmps8
  go_wp2_with fail
  refine ((unhide HU) _).mono ?_
  rintro e w2 ⟨rfl, hf2⟩
  have H2 := hide hf2
  clear hf2
  go_wp2_with fail
  refine ((unhide HE) _).mono ?_
  rintro e w3 ⟨rfl, hf3⟩
  obtain ⟨b3, b5, b8, b9⟩ := (unhide HB) w3 ((unhide H2).trans hf3 (fun _ _ h => h))
  have H3 := hide ((box1S w (.cells #[.int .u32 (cl : Nat), .int .u32 (nu : Nat), .int .u32 (ac : Nat), .int .u8 4, .int .u32 (rc : Nat), .int .u32 (ve : Nat), .int .u32 (wa : Nat), .int .u32 (ow : Nat), .slice xo n xc, .string rs] 27)).trans ((unhide H2).trans hf3 (fun _ _ h => h)) (fun _ _ h => h))
  clear hf3 H2 HU HE HB
  cases E
  · go_wp2_with fail
    go_ret
    exact ⟨rfl, unhide H3⟩
  · skip
    rcases Nat.lt_or_ge 64 rs.size with h64 | h64
    · have q64 : ¬ (rs.size : Int) ≤ 64 := by omega
      have d64 : decide ((rs.size : Int) ≤ 64) = false := decide_eq_false q64
      go_wp2_with fail
      go_ret
      exact ⟨by rw [decide_eq_false (show ¬ rs.size ≤ 64 by omega)]; rfl, unhide H3⟩
    · have q64 : (rs.size : Int) ≤ 64 := by omega
      go_wp2_with fail
      refine ((unhide HA) _ (unhide H3)).mono ?_
      rintro e w4 ⟨rfl, hf4⟩
      have H4 := hide ((unhide H3).trans hf4 (fun _ _ h => h))
      clear hf4
      go_wp2_with fail
      go_ret
      exact ⟨by rw [decide_eq_true (show rs.size ≤ 64 by omega)]; rfl, unhide H4⟩
set_option maxHeartbeats 2000000 in
set_option maxRecDepth 100000 in
theorem formed_5 (cl nu ac rc ve wa ow : Nat) (rs : ByteArray) (xo : Option Addr) (n xc : Nat) (l : List F5) (w : World) (hx : Fds w (.slice xo n xc) l) (hl : l.length ≤ 140737488355328) (hv : ∀ f ∈ l, f.v < 4294967296 ∧ f.u < 256) :
    Calls Tryz.prog 8 #[(RQ.mk cl nu ac 5 rc ve wa ow (.slice xo n xc) rs).v] w fun e w' => e = .returned (.bool ((RQ.mk cl nu ac 5 0 ve wa ow (.slice xo n xc) rs).emp n && (decide (rs.size ≤ 64) && fdsB l false))) ∧ Fr (fun _ => False) w w' := by
  have HU := hide (fun W' => unused_5 cl nu ac rc ve wa ow rs xo n xc W')
  have HE := hide (fun W' => isEmpty_any cl nu ac 5 0 ve wa ow rs xo n xc W')
  have HA : Hid (∀ W', Fr (fun _ => False) w W' → Calls Tryz.prog 18 #[.slice xo n xc, .bool false] W' fun e w' => e = .returned (.bool (fdsB l false)) ∧ Fr (fun _ => False) W' w') := fun W' hf => areFormed_any _ l false W' (hx.fr hf) hl hv
  have HB : Hid (∀ W', Fr (fun _ => False) (w.alloc (.cells #[.int .u32 (cl : Nat), .int .u32 (nu : Nat), .int .u32 (ac : Nat), .int .u8 5, .int .u32 (rc : Nat), .int .u32 (ve : Nat), .int .u32 (wa : Nat), .int .u32 (ow : Nat), .slice xo n xc, .string rs] 27)) W' → W'.cell? ⟨w.heap.size, 3, none⟩ = some (.int .u8 5) ∧ W'.cell? ⟨w.heap.size, 5, none⟩ = some (.int .u32 (ve : Nat)) ∧ W'.cell? ⟨w.heap.size, 8, none⟩ = some (.slice xo n xc) ∧ W'.cell? ⟨w.heap.size, 9, none⟩ = some (.string rs)) := fun W' hf => by
    have hb := rbox w W' (RQ.mk cl nu ac 5 rc ve wa ow (.slice xo n xc) rs) 27 _ rfl hf
    refine ⟨?_, ?_, ?_, ?_⟩ <;> (simp only [World.cell?, hb]; rfl)
  generalize (RQ.mk cl nu ac 5 0 ve wa ow (.slice xo n xc) rs).emp n = E at *
  generalize fdsB l false = A at *
  simp only [RQ.v] at *
  clear hx hl hv
  go_enter Tryz.func8, Tryz.ntmps8
  go_wp2_with fail
  refine ((unhide HU) _).mono ?_
  rintro e w2 ⟨rfl, hf2⟩
  have H2 := hide hf2
  clear hf2
  go_wp2_with fail
  refine ((unhide HE) _).mono ?_
  rintro e w3 ⟨rfl, hf3⟩
  obtain ⟨b3, b5, b8, b9⟩ := (unhide HB) w3 ((unhide H2).trans hf3 (fun _ _ h => h))
  have H3 := hide ((box1S w (.cells #[.int .u32 (cl : Nat), .int .u32 (nu : Nat), .int .u32 (ac : Nat), .int .u8 5, .int .u32 (rc : Nat), .int .u32 (ve : Nat), .int .u32 (wa : Nat), .int .u32 (ow : Nat), .slice xo n xc, .string rs] 27)).trans ((unhide H2).trans hf3 (fun _ _ h => h)) (fun _ _ h => h))
  clear hf3 H2 HU HE HB
  cases E
  · go_wp2_with fail
    go_ret
    exact ⟨rfl, unhide H3⟩
  · skip
    rcases Nat.lt_or_ge 64 rs.size with h64 | h64
    · have q64 : ¬ (rs.size : Int) ≤ 64 := by omega
      have d64 : decide ((rs.size : Int) ≤ 64) = false := decide_eq_false q64
      go_wp2_with fail
      go_ret
      exact ⟨by rw [decide_eq_false (show ¬ rs.size ≤ 64 by omega)]; rfl, unhide H3⟩
    · have q64 : (rs.size : Int) ≤ 64 := by omega
      go_wp2_with fail
      refine ((unhide HA) _ (unhide H3)).mono ?_
      rintro e w4 ⟨rfl, hf4⟩
      have H4 := hide ((unhide H3).trans hf4 (fun _ _ h => h))
      clear hf4
      go_wp2_with fail
      go_ret
      exact ⟨by rw [decide_eq_true (show rs.size ≤ 64 by omega)]; rfl, unhide H4⟩
set_option maxHeartbeats 2000000 in
set_option maxRecDepth 100000 in
theorem formed_6 (cl nu ac rc ve wa ow : Nat) (rs : ByteArray) (xo : Option Addr) (n xc : Nat) (l : List F5) (w : World) (hx : Fds w (.slice xo n xc) l) (hl : l.length ≤ 140737488355328) (hv : ∀ f ∈ l, f.v < 4294967296 ∧ f.u < 256) :
    Calls Tryz.prog 8 #[(RQ.mk cl nu ac 6 rc ve wa ow (.slice xo n xc) rs).v] w fun e w' => e = .returned (.bool ((RQ.mk cl nu ac 6 0 0 wa ow (.slice xo n xc) rs).emp n && (decide (ve ≤ 1) && decide (rs.size ≤ 64) && fdsB l false))) ∧ Fr (fun _ => False) w w' := by
  have HU := hide (fun W' => unused_6 cl nu ac rc ve wa ow rs xo n xc W')
  have HE := hide (fun W' => isEmpty_any cl nu ac 6 0 0 wa ow rs xo n xc W')
  have HA : Hid (∀ W', Fr (fun _ => False) w W' → Calls Tryz.prog 18 #[.slice xo n xc, .bool false] W' fun e w' => e = .returned (.bool (fdsB l false)) ∧ Fr (fun _ => False) W' w') := fun W' hf => areFormed_any _ l false W' (hx.fr hf) hl hv
  have HB : Hid (∀ W', Fr (fun _ => False) (w.alloc (.cells #[.int .u32 (cl : Nat), .int .u32 (nu : Nat), .int .u32 (ac : Nat), .int .u8 6, .int .u32 (rc : Nat), .int .u32 (ve : Nat), .int .u32 (wa : Nat), .int .u32 (ow : Nat), .slice xo n xc, .string rs] 27)) W' → W'.cell? ⟨w.heap.size, 3, none⟩ = some (.int .u8 6) ∧ W'.cell? ⟨w.heap.size, 5, none⟩ = some (.int .u32 (ve : Nat)) ∧ W'.cell? ⟨w.heap.size, 8, none⟩ = some (.slice xo n xc) ∧ W'.cell? ⟨w.heap.size, 9, none⟩ = some (.string rs)) := fun W' hf => by
    have hb := rbox w W' (RQ.mk cl nu ac 6 rc ve wa ow (.slice xo n xc) rs) 27 _ rfl hf
    refine ⟨?_, ?_, ?_, ?_⟩ <;> (simp only [World.cell?, hb]; rfl)
  generalize (RQ.mk cl nu ac 6 0 0 wa ow (.slice xo n xc) rs).emp n = E at *
  generalize fdsB l false = A at *
  simp only [RQ.v] at *
  clear hx hl hv
  go_enter Tryz.func8, Tryz.ntmps8
  go_wp2_with fail
  refine ((unhide HU) _).mono ?_
  rintro e w2 ⟨rfl, hf2⟩
  have H2 := hide hf2
  clear hf2
  go_wp2_with fail
  refine ((unhide HE) _).mono ?_
  rintro e w3 ⟨rfl, hf3⟩
  obtain ⟨b3, b5, b8, b9⟩ := (unhide HB) w3 ((unhide H2).trans hf3 (fun _ _ h => h))
  have H3 := hide ((box1S w (.cells #[.int .u32 (cl : Nat), .int .u32 (nu : Nat), .int .u32 (ac : Nat), .int .u8 6, .int .u32 (rc : Nat), .int .u32 (ve : Nat), .int .u32 (wa : Nat), .int .u32 (ow : Nat), .slice xo n xc, .string rs] 27)).trans ((unhide H2).trans hf3 (fun _ _ h => h)) (fun _ _ h => h))
  clear hf3 H2 HU HE HB
  cases E
  · go_wp2_with fail
    go_ret
    exact ⟨rfl, unhide H3⟩
  · rcases Nat.lt_or_ge 1 ve with hve | hve
    · have qv : (1 : Int) < (ve : Int) := by omega
      have dv : decide (ve ≤ 1) = false := decide_eq_false (by omega)
      go_wp2_with fail
      go_ret
      exact ⟨by rw [dv]; rfl, unhide H3⟩
    · have qv : ¬ (1 : Int) < (ve : Int) := by omega
      have dvv : decide ((1 : Int) < (ve : Int)) = false := decide_eq_false qv
      rcases Nat.lt_or_ge 64 rs.size with h64 | h64
      · have q64 : ¬ (rs.size : Int) ≤ 64 := by omega
        have d64 : decide ((rs.size : Int) ≤ 64) = false := decide_eq_false q64
        go_wp2_with fail
        go_ret
        exact ⟨by rw [decide_eq_true hve, decide_eq_false (show ¬ rs.size ≤ 64 by omega)]; rfl, unhide H3⟩
      · have q64 : (rs.size : Int) ≤ 64 := by omega
        go_wp2_with fail
        refine ((unhide HA) _ (unhide H3)).mono ?_
        rintro e w4 ⟨rfl, hf4⟩
        have H4 := hide ((unhide H3).trans hf4 (fun _ _ h => h))
        clear hf4
        go_wp2_with fail
        go_ret
        exact ⟨by rw [decide_eq_true hve, decide_eq_true (show rs.size ≤ 64 by omega)]; rfl, unhide H4⟩
set_option maxHeartbeats 2000000 in
set_option maxRecDepth 100000 in
theorem formed_7 (cl nu ac rc ve wa ow : Nat) (rs : ByteArray) (xo : Option Addr) (n xc : Nat) (l : List F5) (w : World) (hx : Fds w (.slice xo n xc) l) (hl : l.length ≤ 140737488355328) (hv : ∀ f ∈ l, f.v < 4294967296 ∧ f.u < 256) :
    Calls Tryz.prog 8 #[(RQ.mk cl nu ac 7 rc ve wa ow (.slice xo n xc) rs).v] w fun e w' => e = .returned (.bool ((RQ.mk cl nu ac 7 0 ve wa ow (.slice xo n xc) ⟨#[]⟩).emp n && (decide (rs.size ≤ 64) && fdsB l false))) ∧ Fr (fun _ => False) w w' := by
  have HU := hide (fun W' => unused_7 cl nu ac rc ve wa ow rs xo n xc W')
  have HE := hide (fun W' => isEmpty_any cl nu ac 7 0 ve wa ow ⟨#[]⟩ xo n xc W')
  have HA : Hid (∀ W', Fr (fun _ => False) w W' → Calls Tryz.prog 18 #[.slice xo n xc, .bool false] W' fun e w' => e = .returned (.bool (fdsB l false)) ∧ Fr (fun _ => False) W' w') := fun W' hf => areFormed_any _ l false W' (hx.fr hf) hl hv
  have HB : Hid (∀ W', Fr (fun _ => False) (w.alloc (.cells #[.int .u32 (cl : Nat), .int .u32 (nu : Nat), .int .u32 (ac : Nat), .int .u8 7, .int .u32 (rc : Nat), .int .u32 (ve : Nat), .int .u32 (wa : Nat), .int .u32 (ow : Nat), .slice xo n xc, .string rs] 27)) W' → W'.cell? ⟨w.heap.size, 3, none⟩ = some (.int .u8 7) ∧ W'.cell? ⟨w.heap.size, 5, none⟩ = some (.int .u32 (ve : Nat)) ∧ W'.cell? ⟨w.heap.size, 8, none⟩ = some (.slice xo n xc) ∧ W'.cell? ⟨w.heap.size, 9, none⟩ = some (.string rs)) := fun W' hf => by
    have hb := rbox w W' (RQ.mk cl nu ac 7 rc ve wa ow (.slice xo n xc) rs) 27 _ rfl hf
    refine ⟨?_, ?_, ?_, ?_⟩ <;> (simp only [World.cell?, hb]; rfl)
  generalize (RQ.mk cl nu ac 7 0 ve wa ow (.slice xo n xc) ⟨#[]⟩).emp n = E at *
  generalize fdsB l false = A at *
  simp only [RQ.v] at *
  clear hx hl hv
  go_enter Tryz.func8, Tryz.ntmps8
  go_wp2_with fail
  refine ((unhide HU) _).mono ?_
  rintro e w2 ⟨rfl, hf2⟩
  have H2 := hide hf2
  clear hf2
  go_wp2_with fail
  refine ((unhide HE) _).mono ?_
  rintro e w3 ⟨rfl, hf3⟩
  obtain ⟨b3, b5, b8, b9⟩ := (unhide HB) w3 ((unhide H2).trans hf3 (fun _ _ h => h))
  have H3 := hide ((box1S w (.cells #[.int .u32 (cl : Nat), .int .u32 (nu : Nat), .int .u32 (ac : Nat), .int .u8 7, .int .u32 (rc : Nat), .int .u32 (ve : Nat), .int .u32 (wa : Nat), .int .u32 (ow : Nat), .slice xo n xc, .string rs] 27)).trans ((unhide H2).trans hf3 (fun _ _ h => h)) (fun _ _ h => h))
  clear hf3 H2 HU HE HB
  cases E
  · go_wp2_with fail
    go_ret
    exact ⟨rfl, unhide H3⟩
  · skip
    rcases Nat.lt_or_ge 64 rs.size with h64 | h64
    · have q64 : ¬ (rs.size : Int) ≤ 64 := by omega
      have d64 : decide ((rs.size : Int) ≤ 64) = false := decide_eq_false q64
      go_wp2_with fail
      go_ret
      exact ⟨by rw [decide_eq_false (show ¬ rs.size ≤ 64 by omega)]; rfl, unhide H3⟩
    · have q64 : (rs.size : Int) ≤ 64 := by omega
      go_wp2_with fail
      refine ((unhide HA) _ (unhide H3)).mono ?_
      rintro e w4 ⟨rfl, hf4⟩
      have H4 := hide ((unhide H3).trans hf4 (fun _ _ h => h))
      clear hf4
      go_wp2_with fail
      go_ret
      exact ⟨by rw [decide_eq_true (show rs.size ≤ 64 by omega)]; rfl, unhide H4⟩
end Go.Proofs.YtjkkonhhnmjcaaaGreatDoor

