import Derived.Test.YtedmhpplhbaglaaNcd
namespace Go.Proofs.Ytedmhpplhbaglaa
open Go.RowKit Go.ChangeShapes Go.WideShapes Go.Maps

set_option maxHeartbeats 8000000 in
set_option maxRecDepth 1000000 in
theorem cc_2y1 (w wr : World) (A : List OpV) (vc d m g1 g2 g o k : Nat) (c1 c4 c22 c23 c24 c25 c26 c27 c28 c29 c30 c219 c220 c221 c222 c223 c224 c225 c226 c227 c228 c229 u2 u10 u11 u12 u13 u14 u15 u16 u17 u18 u19 u20 u21 u31 u32 u33 u34 u35 u36 u37 u38 u39 u40 u41 u42 u43 u44 u45 u46 u47 u48 u49 u50 u51 u52 u53 u54 u55 u56 u57 u58 u59 u60 u61 u62 u63 u64 u65 u66 u67 u68 u69 u70 u71 u72 u73 u74 u75 u76 u77 u78 u79 u80 u81 u82 u83 u84 u85 u86 u87 u88 u89 u90 u91 u92 u93 u94 u95 u96 u97 u98 u99 u100 u101 u102 u103 u104 u105 u106 u107 u108 u109 u110 u111 u112 u113 u114 u115 u116 u117 u118 u119 u120 u121 u122 u123 u124 u125 u126 u127 u128 u129 u130 u131 u132 u133 u134 u135 u136 u137 u138 u139 u140 u141 u142 u143 u144 u145 u146 u147 u148 u149 u150 u151 u152 u153 u154 u155 u156 u157 u158 u159 u160 u161 u162 u163 u164 u165 u166 u167 u168 u169 u170 u171 u172 u173 u174 u175 u176 u177 u178 u179 u180 u181 u182 u183 u184 u185 u186 u187 u188 u189 u190 u191 u192 u193 u194 u195 u196 u197 u198 u199 u200 u201 u202 u203 u204 u205 u206 u207 u208 u209 u210 u211 u212 u213 u214 u215 u216 u217 u218 : Value) (Q0 : Exit → Act → World → Prop) (ps : List PK) (sv : Nat → Option Addr × Nat) (T : Nat → Prop) (L : List OV) (po no : Option Addr) (pc nc : Nat) (G1 G2 : Nat → Nat) (hM : CM w wr d m ps sv T L (.slice po L.length pc) L.length (.slice no L.length nc) G1 g1 G2 g2) (hP : CP ps L L.length G1 G2) (hpk : ps.length ≤ k) (hn : A.length ≤ 1048575) (hlt : k < A.length) (aa bb : Int) (xo : Option Addr) (ll xc : Nat) (s0 : wr.cell? ⟨g, o + k * 4, none⟩ = some (.int .i64 2)) (s1 : wr.cell? ⟨g, o + k * 4 + 1, none⟩ = some (.int .i64 aa)) (s2 : wr.cell? ⟨g, o + k * 4 + 2, none⟩ = some (.int .i64 bb)) (s3 : wr.cell? ⟨g, o + k * 4 + 3, none⟩ = some (.slice xo ll xc)) (q : Nat) (hql : q < L.length) (hq0 : 0 < q) (hq : Int.tmod aa (L.length : Int) = -(q : Int)) (p : PK) (hp : ps[q]? = some p) (hp0 :  p.gone = 0) :
    Code.wp Try.prog ncBody (Exit.then (fun a' w'' => WI w A (some ⟨g, o, none⟩) vc d m g1 g2 c1 c4 c22 c23 c24 c25 c26 c27 c28 c29 c30 c219 c220 c221 c222 c223 c224 c225 c226 c227 c228 c229 a' w'' ∧ Wmu A a' w'' < Wmu A ⟨#[.slice (some ⟨g, o, none⟩) A.length vc, c1, u2, .pointer (some ⟨d, 0, none⟩), c4, .slice po L.length pc, .slice no L.length nc, .pointer (some ⟨g1, 0, none⟩), .pointer (some ⟨g2, 0, none⟩), .int .i64 (k : Nat), u10, u11, u12, u13, u14, u15, u16, u17, u18, u19, u20, u21, c22, c23, c24, c25, c26, c27, c28, c29, c30, u31, u32, u33, u34, u35, u36, u37, u38, u39, u40, u41, u42, u43, u44, u45, u46, u47, u48, u49, u50, u51, u52, u53, u54, u55, u56, u57, u58, u59, u60, u61, u62, u63, u64, u65, u66, u67, u68, u69, u70, u71, u72, u73, u74, u75, u76, u77, u78, u79, u80, u81, u82, u83, u84, u85, u86, u87, u88, u89, u90, u91, u92, u93, u94, u95, u96, u97, u98, u99, u100, u101, u102, u103, u104, u105, u106, u107, u108, u109, u110, u111, u112, u113, u114, u115, u116, u117, u118, u119, u120, u121, u122, u123, u124, u125, u126, u127, u128, u129, u130, u131, u132, u133, u134, u135, u136, u137, u138, u139, u140, u141, u142, u143, u144, u145, u146, u147, u148, u149, u150, u151, u152, u153, u154, u155, u156, u157, u158, u159, u160, u161, u162, u163, u164, u165, u166, u167, u168, u169, u170, u171, u172, u173, u174, u175, u176, u177, u178, u179, u180, u181, u182, u183, u184, u185, u186, u187, u188, u189, u190, u191, u192, u193, u194, u195, u196, u197, u198, u199, u200, u201, u202, u203, u204, u205, u206, u207, u208, u209, u210, u211, u212, u213, u214, u215, u216, u217, u218, c219, c220, c221, c222, c223, c224, c225, c226, c227, c228, c229], []⟩ wr) Q0) ⟨#[.slice (some ⟨g, o, none⟩) A.length vc, c1, u2, .pointer (some ⟨d, 0, none⟩), c4, .slice po L.length pc, .slice no L.length nc, .pointer (some ⟨g1, 0, none⟩), .pointer (some ⟨g2, 0, none⟩), .int .i64 (k : Nat), u10, u11, u12, u13, u14, u15, u16, u17, u18, u19, u20, u21, c22, c23, c24, c25, c26, c27, c28, c29, c30, u31, u32, u33, u34, u35, u36, u37, u38, u39, u40, u41, u42, u43, u44, u45, u46, u47, u48, u49, u50, u51, u52, u53, u54, u55, u56, u57, u58, u59, u60, u61, u62, u63, u64, u65, u66, u67, u68, u69, u70, u71, u72, u73, u74, u75, u76, u77, u78, u79, u80, u81, u82, u83, u84, u85, u86, u87, u88, u89, u90, u91, u92, u93, u94, u95, u96, u97, u98, u99, u100, u101, u102, u103, u104, u105, u106, u107, u108, u109, u110, u111, u112, u113, u114, u115, u116, u117, u118, u119, u120, u121, u122, u123, u124, u125, u126, u127, u128, u129, u130, u131, u132, u133, u134, u135, u136, u137, u138, u139, u140, u141, u142, u143, u144, u145, u146, u147, u148, u149, u150, u151, u152, u153, u154, u155, u156, u157, u158, u159, u160, u161, u162, u163, u164, u165, u166, u167, u168, u169, u170, u171, u172, u173, u174, u175, u176, u177, u178, u179, u180, u181, u182, u183, u184, u185, u186, u187, u188, u189, u190, u191, u192, u193, u194, u195, u196, u197, u198, u199, u200, u201, u202, u203, u204, u205, u206, u207, u208, u209, u210, u211, u212, u213, u214, u215, u216, u217, u218, c219, c220, c221, c222, c223, c224, c225, c226, c227, c228, c229], []⟩ wr := by
  conv => arg 2; whnf
  have hpl := hP.ln
  have HM := hide (And.intro hM (And.intro hP hpl))
  have hLk : L.length ≤ 1048575 := by omega
  clear hM hP hpl
  have hz1 : ¬ (L.length : Int) = 0 := by omega
  have hz0 : ((L.length : Int) == 0) = false := beq_eq_false_iff_ne.mpr hz1
  obtain ⟨x, hx⟩ : ∃ x, L[q]? = some x := ⟨_, List.getElem?_eq_getElem hql⟩
  obtain ⟨pf, pt, pb⟩ := (unhide HM).2.1.lk q p x hp hx
  obtain ⟨gn, rfl⟩ : ∃ gn, no = some ⟨gn, 0, none⟩ := by
    rcases (unhide HM).1.q.2 with ⟨_, e⟩ | ⟨gn, c', cur, e, _⟩
    · omega
    · simp only [Value.slice.injEq] at e; exact ⟨gn, e.1⟩
  obtain ⟨gp, rfl⟩ : ∃ gp, po = some ⟨gp, 0, none⟩ := by
    rcases (unhide HM).1.p.2 with ⟨_, e⟩ | ⟨gp, c', cur, e, _⟩
    · omega
    · simp only [Value.slice.injEq] at e; exact ⟨gp, e.1⟩
  have hcn : wr.cell? ⟨gn, q, none⟩ = some (.int .i64 ((q : Int) + 1)) := ((unhide HM).1.q.cellAt q (by omega)).trans (by simp [ncells, hql])
  have hgn : gn < wr.heap.size := lt_of_cell hcn
  have hwq : (Lit.int .i64 ((q : Int) + 1)).wf = true := wf_nat q (by omega)
  have hqn : -(q : Int) < 0 := by omega
  go_wp2_with fail
  refine (copy_ok d m q 4 ps p sv T (wr.alloc (.cells #[.int .i64 2, .int .i64 aa, .int .i64 bb, .slice xo ll xc] 49)) ((unhide HM).1.fr0 (box1 _ _)).n hp hp0 (by have := (unhide HM).2.2; omega)).mono ?_
  rintro e w3 ⟨rfl, sv', hN3, hf3⟩
  rw [(unhide HM).2.2]
  have hM3 := ((unhide HM).1.fr0 (box1 _ _)).net hN3 hf3 (fun g hg => .inl hg)
  have hwl : wr.heap.size < w3.heap.size := by have := hf3.size; simp at this; omega
  obtain ⟨t0, t1, t2, t3⟩ := ocells_at hx
  have l0 : w3.cell? ⟨gp, q * 4, none⟩ = some (.int .i64 1) := (hM3.p.cellAt (q * 4) (by omega)).trans t0
  have l1 : w3.cell? ⟨gp, q * 4 + 1, none⟩ = some (.int .i64 x.a) := (hM3.p.cellAt (q * 4 + 1) (by omega)).trans t1
  have l2 : w3.cell? ⟨gp, q * 4 + 2, none⟩ = some (.int .i64 x.b) := (hM3.p.cellAt (q * 4 + 2) (by omega)).trans t2
  have l3 : w3.cell? ⟨gp, q * 4 + 3, none⟩ = some (.slice (some ⟨x.g, 0, none⟩) 1 1) := (hM3.p.cellAt (q * 4 + 3) (by omega)).trans t3
  obtain ⟨hxy, hxg⟩ := hM3.ly x (List.mem_of_getElem? hx)
  obtain ⟨po', pc', w4, hr4, ho4, hf4, hbk4⟩ := app_op w3 w.heap.size _ L x hM3.p (by omega) hM3.f.size
  have hM4 := hM3.putp (x := x) ho4 hf4 hbk4 hxy ((hf4.block _ (lt_of_block hxg) (fun e => by
    obtain ⟨cur, hc⟩ := own_blk hM3.p e
    rw [hxg] at hc
    simp at hc)).trans hxg)
  obtain ⟨no', nc', w5, hr5, ho5, hf5, hbk5⟩ := app_num w4 w.heap.size L.length _ hM4.q (by omega) hM4.f.size
  have hM5 := hM4.putq ho5 hf5 hbk5
  obtain ⟨gp', rfl⟩ : ∃ gp', po' = some ⟨gp', 0, none⟩ := by
    rcases hM5.p.2 with ⟨_, e⟩ | ⟨gp', c', cur, e, _⟩
    · simp at e
    · simp only [Value.slice.injEq] at e; exact ⟨gp', e.1⟩
  have hx' : (L ++ [x])[q]? = some x := by rw [List.getElem?_append_left hql]; exact hx
  have m3 : w5.cell? ⟨gp', q * 4 + 3, none⟩ = some (.slice (some ⟨x.g, 0, none⟩) 1 1) := by
    have hp5 := hM5.p
    rw [List.length_append] at hp5
    exact (hp5.cellAt (q * 4 + 3) (by omega)).trans (ocells_at hx').2.2.2
  have m4 : w5.cell? ⟨x.g, 0, none⟩ = some (.int .u8 (x.y : Nat)) := cell_of_blk (hM5.ly x (List.mem_of_getElem? hx')).2 rfl
  have c2 : w5.cell? ⟨g2, x.y, none⟩ = some (.int .i64 (G2 x.y : Nat)) := cell_of_blk hM5.a2 (arr_at G2 _ hxy)
  have z2 : w5.frozen? ⟨g2, x.y, none⟩ = false := by simp [World.frozen?, hM5.a2]
  have hM6 := hM5.arr2 x.y (G2 x.y + 1) hxy
  rw [show (((G2 x.y + 1 : Nat)) : Int) = (G2 x.y : Int) + 1 from rfl] at hM6
  have hP6 := (unhide HM).2.1.put { p with cp := true } x hp0 pf pt pb (G2 x.y + 1) rfl
  have hG2 : G2 x.y ≤ 1048576 := by
    rw [(unhide HM).2.1.e2]
    exact Nat.le_trans List.countP_le_length (by have := (unhide HM).2.2; omega)
  have H6 := hide (And.intro hM6 (And.intro hP6 (show (ps ++ [{ p with cp := true }]).length ≤ k + 1 by simp; exact hpk)))
  have HR4 := hide hr4
  have HR5 := hide hr5
  have hq1 : q < L.length + 1 := by omega
  clear hr4 hr5 ho4 ho5 hf4 hf5 hbk4 hbk5 hM3 hM4 hM5 hM6 hP6 s0 s1 s2 s3 t0 t1 t2 t3 hN3 hf3 hxg hx hx' hp hp0 pf pt pb hcn
  generalize x.a = xa at *
  generalize x.b = xb at *
  generalize hyy : x.y = xy at *
  generalize x.g = xg at *
  go_wp2_with (first
    | (at_builtin; refine wpList_app rfl (.tmp 114) (.tmp 119) 42 42 rfl _ _ _ rfl rfl (unhide HR4) ?_)
    | (at_builtin; refine wpList_app rfl (.tmp 121) (.tmp 123) 52 52 rfl _ _ _ rfl rfl (unhide HR5) ?_))

  go_wp2_with fail
  refine (count_any d m 4 _ sv' T _ (unhide H6).1.n).mono ?_
  rintro e w8 ⟨rfl, qq, hw8⟩
  have hf8 : Fr (fun _ => False) (w5.setCell ⟨g2, xy, none⟩ (.int .i64 ((G2 xy : Int) + 1))) w8 := by rw [hw8]; exact (Fr.refl _ _).drewN qq
  have H8 := hide (And.intro ((unhide H6).1.fr0 hf8) (unhide H6).2)
  clear hf8 hw8
  go_wp2_with fail
  refine (waiting_any d m 4 _ sv' T w8 (unhide H8).1.n (by have := (unhide H8).2.2; omega)).mono ?_
  rintro e w9 ⟨vv, Lw, rfl, hO, hLw, hf9⟩
  obtain ⟨vo9, vc9, rfl⟩ := own_formX hO.row
  have hlw : Lw.length = (up (ps ++ [{ p with cp := true }])).length := by simpa [wl] using congrArg List.length hLw
  have hln : (ps ++ [{ p with cp := true }]).length = L.length + 1 := (unhide H8).2.1.ln.trans (by simp)
  have HCR : Hid (CR w w9 d m g1 (g2) (k + 1) (.slice (some ⟨gp', 0, none⟩) (L.length + 1) pc') (.slice no' (L.length + 1) nc')) := ⟨_, _, _, _, _, _, _, (unhide H8).1.fr0 hf9, (unhide H8).2⟩
  obtain ⟨wS, Y, wT, wU⟩ := tail_w (ps ++ [{ p with cp := true }]) (unhide H8).2.1.go Lw.length (L.length + 1) L.length hlw hln hLk (Nat.le_refl _) (N := (L.length : Int) + 1) rfl
  clear hO hLw hf9 H8 H6 hlw hln
  generalize cS (ps ++ [{ p with cp := true }]) = s1 at *
  generalize cC (ps ++ [{ p with cp := true }]) = s2 at *
  generalize cD (ps ++ [{ p with cp := true }]) = s3 at *
  generalize cL (ps ++ [{ p with cp := true }]) = s4 at *
  generalize Lw.length = s5 at *
  go_wp2_with fail
  refine ⟨?_, by simp [Wmu, intOf]; omega⟩
  unfold WI
  refine ⟨_, _, _, _, _, _, _, _, _, _, _, _, _, _, _, _, _, _, _, _, _, _, _, _, _, _, _, _, _, _, _, _, _, _, _, _, _, _, _, _, _, _, _, _, _, _, _, _, _, _, _, _, _, _, _, _, _, _, _, _, _, _, _, _, _, _, _, _, _, _, _, _, _, _, _, _, _, _, _, _, _, _, _, _, _, _, _, _, _, _, _, _, _, _, _, _, _, _, _, _, _, _, _, _, _, _, _, _, _, _, _, _, _, _, _, _, _, _, _, _, _, _, _, _, _, _, _, _, _, _, _, _, _, _, _, _, _, _, _, _, _, _, _, _, _, _, _, _, _, _, _, _, _, _, _, _, _, _, _, _, _, _, _, _, _, _, _, _, _, _, _, _, _, _, _, _, _, _, _, _, _, _, _, _, _, _, _, _, _, _, _, _, _, _, _, _, _, _, _, _, _, _, _, _, ⟨k + 1, by omega, by go_num, unhide HCR⟩, rfl⟩
end Go.Proofs.Ytedmhpplhbaglaa
