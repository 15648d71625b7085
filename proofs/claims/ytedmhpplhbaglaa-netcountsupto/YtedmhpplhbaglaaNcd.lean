import Derived.Test.YtedmhpplhbaglaaNtx
import Derived.Test.YtedmhpplhbaglaaNcb
namespace Go.Proofs.Ytedmhpplhbaglaa
open Go.RowKit Go.ChangeShapes Go.WideShapes Go.Maps

theorem and3 (a : Int) : 0 ≤ bits .and .i64 a 3 ∧ bits .and .i64 a 3 < 4 := by
  have h : bits .and .i64 a 3 = IntKind.i64.wrap (((BitVec.ofInt 64 a &&& BitVec.ofInt 64 3).toNat : Nat) : Int) := rfl
  have h2 : (BitVec.ofInt 64 a &&& BitVec.ofInt 64 3).toNat ≤ 3 := by
    rw [BitVec.toNat_and]
    have := Nat.and_le_right (n := (BitVec.ofInt 64 a).toNat) (m := (BitVec.ofInt 64 3).toNat)
    have e : (BitVec.ofInt 64 3).toNat = 3 := by decide
    omega
  rw [h, IntKind.wrap_i64]
  omega
theorem isP3 (a : Int) : isP 4 (bits .and .i64 a 3) = true := by
  have := and3 a
  simp [isP]
  omega
/-- What a round leaves. -/
structure CR (w W : World) (d m g1 g2 k : Nat) (pv nv : Value) : Prop where
  h : ∃ ps sv T L N G1 G2, CM w W d m ps sv T L pv N nv G1 g1 G2 g2 ∧ CP ps L N G1 G2 ∧ ps.length ≤ k
theorem wr_add (a b n : Int) (h : a + b = n) (h0 : 0 ≤ n) (h1 : n ≤ 8000000) : wrap64 (a + b) = n := by
  rw [h]; unfold wrap64; omega
theorem tail_w (ps : List PK) (h : ∀ p ∈ ps, p.gone ≤ 2) (s5 n l : Nat) (h5 : s5 = (up ps).length) (hn : ps.length = n) (hl : l ≤ 1048575) (hb : n ≤ l + 1) {N : Int} (hN : (n : Int) = N) : wrap64 ((cS ps : Int) + (cC ps : Int)) = N ∧ ∃ Y : Int, wrap64 ((cD ps : Int) + (cL ps : Int)) = Y ∧ wrap64 (Y + (s5 : Int)) = N := by
  have h1 := all_cnt ps h
  have h2 := cSC ps
  rw [← h5] at h1
  generalize cS ps = a1 at *
  generalize cC ps = a2 at *
  generalize cD ps = a3 at *
  generalize cL ps = a4 at *
  exact ⟨wr_add _ _ _ (by omega) (by omega) (by omega), (a3 : Int) + a4, wr_add _ _ _ rfl (by omega) (by omega), wr_add _ _ _ (by omega) (by omega) (by omega)⟩
def firstLoop : Code → Option Code
  | .loop c => some c
  | .seq a b => match firstLoop a with
    | some c => some c
    | none => firstLoop b
  | .block _ c => firstLoop c
  | .scope c => firstLoop c
  | .cond _ a b => match firstLoop a with
    | some c => some c
    | none => firstLoop b
  | _ => none
noncomputable def ncBody : Code := ((Try.f5.body.bind firstLoop).getD .skip)
set_option maxRecDepth 1000000 in
def WI (w : World) (A : List OpV) (vo : Option Addr) (vc d m g1 g2 : Nat) (c1 c4 c22 c23 c24 c25 c26 c27 c28 c29 c30 c219 c220 c221 c222 c223 c224 c225 c226 c227 c228 c229 : Value) (a : Act) (w' : World) : Prop := ∃ u2 u5 u6 u9 u10 u11 u12 u13 u14 u15 u16 u17 u18 u19 u20 u21 u31 u32 u33 u34 u35 u36 u37 u38 u39 u40 u41 u42 u43 u44 u45 u46 u47 u48 u49 u50 u51 u52 u53 u54 u55 u56 u57 u58 u59 u60 u61 u62 u63 u64 u65 u66 u67 u68 u69 u70 u71 u72 u73 u74 u75 u76 u77 u78 u79 u80 u81 u82 u83 u84 u85 u86 u87 u88 u89 u90 u91 u92 u93 u94 u95 u96 u97 u98 u99 u100 u101 u102 u103 u104 u105 u106 u107 u108 u109 u110 u111 u112 u113 u114 u115 u116 u117 u118 u119 u120 u121 u122 u123 u124 u125 u126 u127 u128 u129 u130 u131 u132 u133 u134 u135 u136 u137 u138 u139 u140 u141 u142 u143 u144 u145 u146 u147 u148 u149 u150 u151 u152 u153 u154 u155 u156 u157 u158 u159 u160 u161 u162 u163 u164 u165 u166 u167 u168 u169 u170 u171 u172 u173 u174 u175 u176 u177 u178 u179 u180 u181 u182 u183 u184 u185 u186 u187 u188 u189 u190 u191 u192 u193 u194 u195 u196 u197 u198 u199 u200 u201 u202 u203 u204 u205 u206 u207 u208 u209 u210 u211 u212 u213 u214 u215 u216 u217 u218 : Value, (∃ k : Nat, k ≤ A.length ∧ u9 = .int .i64 k ∧ CR w w' d m g1 g2 k u5 u6) ∧ a = ⟨#[.slice vo A.length vc, c1, u2, .pointer (some ⟨d, 0, none⟩), c4, u5, u6, .pointer (some ⟨g1, 0, none⟩), .pointer (some ⟨g2, 0, none⟩), u9, u10, u11, u12, u13, u14, u15, u16, u17, u18, u19, u20, u21, c22, c23, c24, c25, c26, c27, c28, c29, c30, u31, u32, u33, u34, u35, u36, u37, u38, u39, u40, u41, u42, u43, u44, u45, u46, u47, u48, u49, u50, u51, u52, u53, u54, u55, u56, u57, u58, u59, u60, u61, u62, u63, u64, u65, u66, u67, u68, u69, u70, u71, u72, u73, u74, u75, u76, u77, u78, u79, u80, u81, u82, u83, u84, u85, u86, u87, u88, u89, u90, u91, u92, u93, u94, u95, u96, u97, u98, u99, u100, u101, u102, u103, u104, u105, u106, u107, u108, u109, u110, u111, u112, u113, u114, u115, u116, u117, u118, u119, u120, u121, u122, u123, u124, u125, u126, u127, u128, u129, u130, u131, u132, u133, u134, u135, u136, u137, u138, u139, u140, u141, u142, u143, u144, u145, u146, u147, u148, u149, u150, u151, u152, u153, u154, u155, u156, u157, u158, u159, u160, u161, u162, u163, u164, u165, u166, u167, u168, u169, u170, u171, u172, u173, u174, u175, u176, u177, u178, u179, u180, u181, u182, u183, u184, u185, u186, u187, u188, u189, u190, u191, u192, u193, u194, u195, u196, u197, u198, u199, u200, u201, u202, u203, u204, u205, u206, u207, u208, u209, u210, u211, u212, u213, u214, u215, u216, u217, u218, c219, c220, c221, c222, c223, c224, c225, c226, c227, c228, c229], []⟩
def Wmu (A : List OpV) (a : Act) (_ : World) : Nat := A.length - (intOf (a.tmps.getD 9 undef)).toNat
end Go.Proofs.Ytedmhpplhbaglaa
