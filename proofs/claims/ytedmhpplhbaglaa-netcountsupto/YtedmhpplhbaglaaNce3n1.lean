import Derived.Test.YtedmhpplhbaglaaNcd
namespace Go.Proofs.Ytedmhpplhbaglaa
open Go.RowKit Go.ChangeShapes Go.WideShapes Go.Maps

set_option maxHeartbeats 8000000 in
set_option maxRecDepth 1000000 in
theorem cc_3n1 (w wr : World) (A : List OpV) (vc d m g1 g2 g o k : Nat) (c1 c4 c22 c23 c24 c25 c26 c27 c28 c29 c30 c219 c220 c221 c222 c223 c224 c225 c226 c227 c228 c229 u2 u10 u11 u12 u13 u14 u15 u16 u17 u18 u19 u20 u21 u31 u32 u33 u34 u35 u36 u37 u38 u39 u40 u41 u42 u43 u44 u45 u46 u47 u48 u49 u50 u51 u52 u53 u54 u55 u56 u57 u58 u59 u60 u61 u62 u63 u64 u65 u66 u67 u68 u69 u70 u71 u72 u73 u74 u75 u76 u77 u78 u79 u80 u81 u82 u83 u84 u85 u86 u87 u88 u89 u90 u91 u92 u93 u94 u95 u96 u97 u98 u99 u100 u101 u102 u103 u104 u105 u106 u107 u108 u109 u110 u111 u112 u113 u114 u115 u116 u117 u118 u119 u120 u121 u122 u123 u124 u125 u126 u127 u128 u129 u130 u131 u132 u133 u134 u135 u136 u137 u138 u139 u140 u141 u142 u143 u144 u145 u146 u147 u148 u149 u150 u151 u152 u153 u154 u155 u156 u157 u158 u159 u160 u161 u162 u163 u164 u165 u166 u167 u168 u169 u170 u171 u172 u173 u174 u175 u176 u177 u178 u179 u180 u181 u182 u183 u184 u185 u186 u187 u188 u189 u190 u191 u192 u193 u194 u195 u196 u197 u198 u199 u200 u201 u202 u203 u204 u205 u206 u207 u208 u209 u210 u211 u212 u213 u214 u215 u216 u217 u218 : Value) (Q0 : Exit → Act → World → Prop) (ps : List PK) (sv : Nat → Option Addr × Nat) (T : Nat → Prop) (L : List OV) (po no : Option Addr) (pc nc : Nat) (G1 G2 : Nat → Nat) (hM : CM w wr d m ps sv T L (.slice po L.length pc) L.length (.slice no L.length nc) G1 g1 G2 g2) (hP : CP ps L L.length G1 G2) (hpk : ps.length ≤ k) (hn : A.length ≤ 1048575) (hlt : k < A.length) (aa bb : Int) (xo : Option Addr) (ll xc : Nat) (s0 : wr.cell? ⟨g, o + k * 4, none⟩ = some (.int .i64 3)) (s1 : wr.cell? ⟨g, o + k * 4 + 1, none⟩ = some (.int .i64 aa)) (s2 : wr.cell? ⟨g, o + k * 4 + 2, none⟩ = some (.int .i64 bb)) (s3 : wr.cell? ⟨g, o + k * 4 + 3, none⟩ = some (.slice xo ll xc)) (q : Nat) (hql : q < L.length) (hq0 : 0 < q) (hq : Int.tmod aa (L.length : Int) = -(q : Int)) (p : PK) (hp : ps[q]? = some p) (hp0 : ¬ p.gone = 0) :
    Code.wp Try.prog ncBody (Exit.then (fun a' w'' => WI w A (some ⟨g, o, none⟩) vc d m g1 g2 c1 c4 c22 c23 c24 c25 c26 c27 c28 c29 c30 c219 c220 c221 c222 c223 c224 c225 c226 c227 c228 c229 a' w'' ∧ Wmu A a' w'' < Wmu A ⟨#[.slice (some ⟨g, o, none⟩) A.length vc, c1, u2, .pointer (some ⟨d, 0, none⟩), c4, .slice po L.length pc, .slice no L.length nc, .pointer (some ⟨g1, 0, none⟩), .pointer (some ⟨g2, 0, none⟩), .int .i64 (k : Nat), u10, u11, u12, u13, u14, u15, u16, u17, u18, u19, u20, u21, c22, c23, c24, c25, c26, c27, c28, c29, c30, u31, u32, u33, u34, u35, u36, u37, u38, u39, u40, u41, u42, u43, u44, u45, u46, u47, u48, u49, u50, u51, u52, u53, u54, u55, u56, u57, u58, u59, u60, u61, u62, u63, u64, u65, u66, u67, u68, u69, u70, u71, u72, u73, u74, u75, u76, u77, u78, u79, u80, u81, u82, u83, u84, u85, u86, u87, u88, u89, u90, u91, u92, u93, u94, u95, u96, u97, u98, u99, u100, u101, u102, u103, u104, u105, u106, u107, u108, u109, u110, u111, u112, u113, u114, u115, u116, u117, u118, u119, u120, u121, u122, u123, u124, u125, u126, u127, u128, u129, u130, u131, u132, u133, u134, u135, u136, u137, u138, u139, u140, u141, u142, u143, u144, u145, u146, u147, u148, u149, u150, u151, u152, u153, u154, u155, u156, u157, u158, u159, u160, u161, u162, u163, u164, u165, u166, u167, u168, u169, u170, u171, u172, u173, u174, u175, u176, u177, u178, u179, u180, u181, u182, u183, u184, u185, u186, u187, u188, u189, u190, u191, u192, u193, u194, u195, u196, u197, u198, u199, u200, u201, u202, u203, u204, u205, u206, u207, u208, u209, u210, u211, u212, u213, u214, u215, u216, u217, u218, c219, c220, c221, c222, c223, c224, c225, c226, c227, c228, c229], []⟩ wr) Q0) ⟨#[.slice (some ⟨g, o, none⟩) A.length vc, c1, u2, .pointer (some ⟨d, 0, none⟩), c4, .slice po L.length pc, .slice no L.length nc, .pointer (some ⟨g1, 0, none⟩), .pointer (some ⟨g2, 0, none⟩), .int .i64 (k : Nat), u10, u11, u12, u13, u14, u15, u16, u17, u18, u19, u20, u21, c22, c23, c24, c25, c26, c27, c28, c29, c30, u31, u32, u33, u34, u35, u36, u37, u38, u39, u40, u41, u42, u43, u44, u45, u46, u47, u48, u49, u50, u51, u52, u53, u54, u55, u56, u57, u58, u59, u60, u61, u62, u63, u64, u65, u66, u67, u68, u69, u70, u71, u72, u73, u74, u75, u76, u77, u78, u79, u80, u81, u82, u83, u84, u85, u86, u87, u88, u89, u90, u91, u92, u93, u94, u95, u96, u97, u98, u99, u100, u101, u102, u103, u104, u105, u106, u107, u108, u109, u110, u111, u112, u113, u114, u115, u116, u117, u118, u119, u120, u121, u122, u123, u124, u125, u126, u127, u128, u129, u130, u131, u132, u133, u134, u135, u136, u137, u138, u139, u140, u141, u142, u143, u144, u145, u146, u147, u148, u149, u150, u151, u152, u153, u154, u155, u156, u157, u158, u159, u160, u161, u162, u163, u164, u165, u166, u167, u168, u169, u170, u171, u172, u173, u174, u175, u176, u177, u178, u179, u180, u181, u182, u183, u184, u185, u186, u187, u188, u189, u190, u191, u192, u193, u194, u195, u196, u197, u198, u199, u200, u201, u202, u203, u204, u205, u206, u207, u208, u209, u210, u211, u212, u213, u214, u215, u216, u217, u218, c219, c220, c221, c222, c223, c224, c225, c226, c227, c228, c229], []⟩ wr := by
  conv => arg 2; whnf
  have hpl := hP.ln
  have HM := hide (And.intro hM (And.intro hP hpl))
  have hLk : L.length ≤ 1048575 := by omega
  clear hM hP hpl
  have hz1 : ¬ (L.length : Int) = 0 := by omega
  have hz0 : ((L.length : Int) == 0) = false := beq_eq_false_iff_ne.mpr hz1
  obtain ⟨x, hx⟩ : ∃ x, L[q]? = some x := ⟨_, List.getElem?_eq_getElem hql⟩
  obtain ⟨pf, pt, pb⟩ := (unhide HM).2.1.lk q p x hp hx
  obtain ⟨gn, rfl⟩ : ∃ gn, no = some ⟨gn, 0, none⟩ := by
    rcases (unhide HM).1.q.2 with ⟨_, e⟩ | ⟨gn, c', cur, e, _⟩
    · omega
    · simp only [Value.slice.injEq] at e; exact ⟨gn, e.1⟩
  obtain ⟨gp, rfl⟩ : ∃ gp, po = some ⟨gp, 0, none⟩ := by
    rcases (unhide HM).1.p.2 with ⟨_, e⟩ | ⟨gp, c', cur, e, _⟩
    · omega
    · simp only [Value.slice.injEq] at e; exact ⟨gp, e.1⟩
  have hcn : wr.cell? ⟨gn, q, none⟩ = some (.int .i64 ((q : Int) + 1)) := ((unhide HM).1.q.cellAt q (by omega)).trans (by simp [ncells, hql])
  have hgn : gn < wr.heap.size := lt_of_cell hcn
  have hwq : (Lit.int .i64 ((q : Int) + 1)).wf = true := wf_nat q (by omega)
  have hqn : -(q : Int) < 0 := by omega
  go_wp2_with fail
  refine (deliver_no d m 4 ((q : Int) + 1) ps sv T (wr.alloc (.cells #[.int .i64 3, .int .i64 aa, .int .i64 bb, .slice xo ll xc] 49)) ((unhide HM).1.fr0 (box1 _ _)).n hwq (by rw [und_nat, hp]; simp [hp0])).mono ?_
  rintro e w3 ⟨rfl, hf3⟩
  obtain ⟨W8, hr8, hb8, hf8⟩ := st_all (P := Try.prog) (W := w3.alloc (.cells #[.int .i64 0, .int .i64 0, .int .i64 0, .slice none 0 0] 34)) (g := w3.heap.size) (ty := 34) [.int .i64 0, .int .i64 0, .int .i64 0, .slice none 0 0] [.int .i64 0, .int .i64 0, .int .i64 0, .slice none 0 0] (heap_alloc_new w3 _) rfl (by kernel_rfl) (by simp [Value.oneCell'])
  have hf9 : Fr (fun _ => False) w3 W8 := (box1 w3 _).trans hf8 (fun i hi e => by have e' : i = w3.heap.size := e; omega)
  have H6 := hide (And.intro ((((unhide HM).1.fr0 (box1 _ _)).fr0 hf3).fr0 hf9) (And.intro (unhide HM).2.1 (show ps.length ≤ k + 1 by omega)))
  have HR := hide hr8
  clear hf3 hf8 hb8 hf9 hr8 hp hp0 pf pt pb hx hcn
  go_wp2_with (refine wpList_stN rfl 34 (.tmp 16) (.tmp 146) rfl _ _ rfl rfl (unhide HR) ?_)

  refine (count_any d m 4 _ sv T _ (unhide H6).1.n).mono ?_
  rintro e w8 ⟨rfl, qq, hw8⟩
  have hf8 : Fr (fun _ => False) W8 w8 := by rw [hw8]; exact (Fr.refl _ _).drewN qq
  have H8 := hide (And.intro ((unhide H6).1.fr0 hf8) (unhide H6).2)
  clear hf8 hw8
  go_wp2_with fail
  refine (waiting_any d m 4 _ sv T w8 (unhide H8).1.n (by have := (unhide H8).2.2; omega)).mono ?_
  rintro e w9 ⟨vv, Lw, rfl, hO, hLw, hf9⟩
  obtain ⟨vo9, vc9, rfl⟩ := own_formX hO.row
  have hlw : Lw.length = (up (ps)).length := by simpa [wl] using congrArg List.length hLw
  have hln : (ps).length = L.length := (unhide H8).2.1.ln.trans (by simp)
  have HCR : Hid (CR w w9 d m g1 (g2) (k + 1) (.slice (some ⟨gp, 0, none⟩) L.length pc) (.slice (some ⟨gn, 0, none⟩) L.length nc)) := ⟨_, _, _, _, _, _, _, (unhide H8).1.fr0 hf9, (unhide H8).2⟩
  obtain ⟨wS, Y, wT, wU⟩ := tail_w (ps) (unhide H8).2.1.go Lw.length (L.length) L.length hlw hln hLk (Nat.le_succ _) (N := (L.length : Int)) rfl
  clear hO hLw hf9 H8 H6 hlw hln
  generalize cS (ps) = s1 at *
  generalize cC (ps) = s2 at *
  generalize cD (ps) = s3 at *
  generalize cL (ps) = s4 at *
  generalize Lw.length = s5 at *
  go_wp2_with fail
  refine ⟨?_, by simp [Wmu, intOf]; omega⟩
  unfold WI
  refine ⟨_, _, _, _, _, _, _, _, _, _, _, _, _, _, _, _, _, _, _, _, _, _, _, _, _, _, _, _, _, _, _, _, _, _, _, _, _, _, _, _, _, _, _, _, _, _, _, _, _, _, _, _, _, _, _, _, _, _, _, _, _, _, _, _, _, _, _, _, _, _, _, _, _, _, _, _, _, _, _, _, _, _, _, _, _, _, _, _, _, _, _, _, _, _, _, _, _, _, _, _, _, _, _, _, _, _, _, _, _, _, _, _, _, _, _, _, _, _, _, _, _, _, _, _, _, _, _, _, _, _, _, _, _, _, _, _, _, _, _, _, _, _, _, _, _, _, _, _, _, _, _, _, _, _, _, _, _, _, _, _, _, _, _, _, _, _, _, _, _, _, _, _, _, _, _, _, _, _, _, _, _, _, _, _, _, _, _, _, _, _, _, _, _, _, _, _, _, _, _, _, _, _, _, _, ⟨k + 1, by omega, by go_num, unhide HCR⟩, rfl⟩
end Go.Proofs.Ytedmhpplhbaglaa
