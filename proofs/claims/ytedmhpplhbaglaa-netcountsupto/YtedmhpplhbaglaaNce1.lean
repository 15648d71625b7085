import Derived.Test.YtedmhpplhbaglaaNcd
namespace Go.Proofs.Ytedmhpplhbaglaa
open Go.RowKit Go.ChangeShapes Go.WideShapes Go.Maps

set_option maxHeartbeats 8000000 in
set_option maxRecDepth 1000000 in
theorem cc_1 (w wr : World) (A : List OpV) (vc d m g1 g2 g o k : Nat) (c1 c4 c22 c23 c24 c25 c26 c27 c28 c29 c30 c219 c220 c221 c222 c223 c224 c225 c226 c227 c228 c229 u2 u10 u11 u12 u13 u14 u15 u16 u17 u18 u19 u20 u21 u31 u32 u33 u34 u35 u36 u37 u38 u39 u40 u41 u42 u43 u44 u45 u46 u47 u48 u49 u50 u51 u52 u53 u54 u55 u56 u57 u58 u59 u60 u61 u62 u63 u64 u65 u66 u67 u68 u69 u70 u71 u72 u73 u74 u75 u76 u77 u78 u79 u80 u81 u82 u83 u84 u85 u86 u87 u88 u89 u90 u91 u92 u93 u94 u95 u96 u97 u98 u99 u100 u101 u102 u103 u104 u105 u106 u107 u108 u109 u110 u111 u112 u113 u114 u115 u116 u117 u118 u119 u120 u121 u122 u123 u124 u125 u126 u127 u128 u129 u130 u131 u132 u133 u134 u135 u136 u137 u138 u139 u140 u141 u142 u143 u144 u145 u146 u147 u148 u149 u150 u151 u152 u153 u154 u155 u156 u157 u158 u159 u160 u161 u162 u163 u164 u165 u166 u167 u168 u169 u170 u171 u172 u173 u174 u175 u176 u177 u178 u179 u180 u181 u182 u183 u184 u185 u186 u187 u188 u189 u190 u191 u192 u193 u194 u195 u196 u197 u198 u199 u200 u201 u202 u203 u204 u205 u206 u207 u208 u209 u210 u211 u212 u213 u214 u215 u216 u217 u218 : Value) (Q0 : Exit → Act → World → Prop) (ps : List PK) (sv : Nat → Option Addr × Nat) (T : Nat → Prop) (L : List OV) (po no : Option Addr) (pc nc : Nat) (G1 G2 : Nat → Nat) (hM : CM w wr d m ps sv T L (.slice po L.length pc) L.length (.slice no L.length nc) G1 g1 G2 g2) (hP : CP ps L L.length G1 G2) (hpk : ps.length ≤ k) (hn : A.length ≤ 1048575) (hlt : k < A.length) (aa bb : Int) (xo : Option Addr) (ll xc : Nat) (s0 : wr.cell? ⟨g, o + k * 4, none⟩ = some (.int .i64 1)) (s1 : wr.cell? ⟨g, o + k * 4 + 1, none⟩ = some (.int .i64 aa)) (s2 : wr.cell? ⟨g, o + k * 4 + 2, none⟩ = some (.int .i64 bb)) (s3 : wr.cell? ⟨g, o + k * 4 + 3, none⟩ = some (.slice xo ll xc)) :
    Code.wp Try.prog ncBody (Exit.then (fun a' w'' => WI w A (some ⟨g, o, none⟩) vc d m g1 g2 c1 c4 c22 c23 c24 c25 c26 c27 c28 c29 c30 c219 c220 c221 c222 c223 c224 c225 c226 c227 c228 c229 a' w'' ∧ Wmu A a' w'' < Wmu A ⟨#[.slice (some ⟨g, o, none⟩) A.length vc, c1, u2, .pointer (some ⟨d, 0, none⟩), c4, .slice po L.length pc, .slice no L.length nc, .pointer (some ⟨g1, 0, none⟩), .pointer (some ⟨g2, 0, none⟩), .int .i64 (k : Nat), u10, u11, u12, u13, u14, u15, u16, u17, u18, u19, u20, u21, c22, c23, c24, c25, c26, c27, c28, c29, c30, u31, u32, u33, u34, u35, u36, u37, u38, u39, u40, u41, u42, u43, u44, u45, u46, u47, u48, u49, u50, u51, u52, u53, u54, u55, u56, u57, u58, u59, u60, u61, u62, u63, u64, u65, u66, u67, u68, u69, u70, u71, u72, u73, u74, u75, u76, u77, u78, u79, u80, u81, u82, u83, u84, u85, u86, u87, u88, u89, u90, u91, u92, u93, u94, u95, u96, u97, u98, u99, u100, u101, u102, u103, u104, u105, u106, u107, u108, u109, u110, u111, u112, u113, u114, u115, u116, u117, u118, u119, u120, u121, u122, u123, u124, u125, u126, u127, u128, u129, u130, u131, u132, u133, u134, u135, u136, u137, u138, u139, u140, u141, u142, u143, u144, u145, u146, u147, u148, u149, u150, u151, u152, u153, u154, u155, u156, u157, u158, u159, u160, u161, u162, u163, u164, u165, u166, u167, u168, u169, u170, u171, u172, u173, u174, u175, u176, u177, u178, u179, u180, u181, u182, u183, u184, u185, u186, u187, u188, u189, u190, u191, u192, u193, u194, u195, u196, u197, u198, u199, u200, u201, u202, u203, u204, u205, u206, u207, u208, u209, u210, u211, u212, u213, u214, u215, u216, u217, u218, c219, c220, c221, c222, c223, c224, c225, c226, c227, c228, c229], []⟩ wr) Q0) ⟨#[.slice (some ⟨g, o, none⟩) A.length vc, c1, u2, .pointer (some ⟨d, 0, none⟩), c4, .slice po L.length pc, .slice no L.length nc, .pointer (some ⟨g1, 0, none⟩), .pointer (some ⟨g2, 0, none⟩), .int .i64 (k : Nat), u10, u11, u12, u13, u14, u15, u16, u17, u18, u19, u20, u21, c22, c23, c24, c25, c26, c27, c28, c29, c30, u31, u32, u33, u34, u35, u36, u37, u38, u39, u40, u41, u42, u43, u44, u45, u46, u47, u48, u49, u50, u51, u52, u53, u54, u55, u56, u57, u58, u59, u60, u61, u62, u63, u64, u65, u66, u67, u68, u69, u70, u71, u72, u73, u74, u75, u76, u77, u78, u79, u80, u81, u82, u83, u84, u85, u86, u87, u88, u89, u90, u91, u92, u93, u94, u95, u96, u97, u98, u99, u100, u101, u102, u103, u104, u105, u106, u107, u108, u109, u110, u111, u112, u113, u114, u115, u116, u117, u118, u119, u120, u121, u122, u123, u124, u125, u126, u127, u128, u129, u130, u131, u132, u133, u134, u135, u136, u137, u138, u139, u140, u141, u142, u143, u144, u145, u146, u147, u148, u149, u150, u151, u152, u153, u154, u155, u156, u157, u158, u159, u160, u161, u162, u163, u164, u165, u166, u167, u168, u169, u170, u171, u172, u173, u174, u175, u176, u177, u178, u179, u180, u181, u182, u183, u184, u185, u186, u187, u188, u189, u190, u191, u192, u193, u194, u195, u196, u197, u198, u199, u200, u201, u202, u203, u204, u205, u206, u207, u208, u209, u210, u211, u212, u213, u214, u215, u216, u217, u218, c219, c220, c221, c222, c223, c224, c225, c226, c227, c228, c229], []⟩ wr := by
  conv => arg 2; whnf
  have hpl := hP.ln
  have HM := hide (And.intro hM (And.intro hP hpl))
  have hLk : L.length ≤ 1048575 := by omega
  clear hM hP hpl
  have HS : Hid (Calls Try.prog 9 #[.pointer (some ⟨d, 0, none⟩), .int .i64 (bits .and .i64 aa 3), .int .i64 (bits .and .i64 bb 3), .slice (some ⟨wr.heap.size + 1, 0, none⟩) 1 1] ((wr.alloc (.cells #[.int .i64 1, .int .i64 aa, .int .i64 bb, .slice xo ll xc] 49)).alloc (.cells #[.int .u8 ((k : Int) % 256)] 5)) fun e w' => e = .returned (.tuple #[.int .i64 ((L.length : Int) + 1), .int .i64 0]) ∧ (∃ sv' T', CM w w' d m (ps ++ [⟨bits .and .i64 aa 3, bits .and .i64 bb 3, [k % 256], 0, false⟩]) sv' T' L (.slice po L.length pc) L.length (.slice no L.length nc) G1 g1 G2 (g2)) ∧ w'.cell? ⟨wr.heap.size, 0, none⟩ = some (.int .i64 1) ∧ w'.cell? ⟨wr.heap.size, 1, none⟩ = some (.int .i64 aa) ∧ w'.cell? ⟨wr.heap.size, 2, none⟩ = some (.int .i64 bb)) := by
    obtain ⟨hM, hP, hpl⟩ := unhide HM
    have hM1 := hM.fr0 (box2 wr (.cells #[.int .i64 1, .int .i64 aa, .int .i64 bb, .slice xo ll xc] 49) (.cells #[.int .u8 ((k : Int) % 256)] 5))
    have hdl := hM.n.lt
    have hsrc : Src ((wr.alloc (.cells #[.int .i64 1, .int .i64 aa, .int .i64 bb, .slice xo ll xc] 49)).alloc (.cells #[.int .u8 ((k : Int) % 256)] 5)) (.slice (some ⟨wr.heap.size + 1, 0, none⟩) 1 1) [k % 256] := by
      have := lit_srcW (wr.alloc (.cells #[.int .i64 1, .int .i64 aa, .int .i64 bb, .slice xo ll xc] 49)) [k % 256] #[.int .u8 ((k : Int) % 256)] 1 (by simp [cellsOf, B])
      simpa using this
    refine (send_ok d m 4 _ _ ps sv T _ [k % 256] _ hM1.n (isP3 aa) (isP3 bb) hsrc (fun g o n c e => by cases e; omega) (by simp) (by omega)).mono ?_
    rintro e w' ⟨rfl, sv', T', hN', hf', hT'⟩
    rw [hpl]
    have hb : w'.heap[wr.heap.size]? = some (.cells #[.int .i64 1, .int .i64 aa, .int .i64 bb, .slice xo ll xc] 49) := (hf'.block _ (by simp; omega) (by omega)).trans ((Below.heap_alloc _ _ _ (by simp)).trans (heap_alloc_new wr _))
    exact ⟨rfl, ⟨sv', T', hM1.net hN' hf' hT'⟩, cell_of_blk hb rfl, cell_of_blk hb rfl, cell_of_blk hb rfl⟩
  go_wp2_with fail
  refine (unhide HS).mono ?_
  rintro e w3 ⟨rfl, ⟨sv', T', hM3⟩, b0, b1, b2⟩
  have hb3 : wr.heap.size < w3.heap.size := lt_of_cell b0
  obtain ⟨po', pc', w4, hr4, ho4, hf4, hbk4⟩ := app_op (w3.alloc (.cells #[.int .u8 ((k : Int) % 256)] 5)) w.heap.size _ L ⟨bits .and .i64 aa 3, bits .and .i64 bb 3, k % 256, w3.heap.size⟩ (hM3.fr0 (box1 _ _)).p (by omega) (hM3.fr0 (box1 _ _)).f.size
  have hd4 : (w3.alloc (.cells #[.int .u8 ((k : Int) % 256)] 5)).heap[w3.heap.size]? = some (.cells #[.int .u8 ((k % 256 : Nat) : Int)] 5) := by
    rw [show ((k % 256 : Nat) : Int) = (k : Int) % 256 by omega]
    exact heap_alloc_new w3 _
  have hM4 := (hM3.fr0 (box1 w3 (.cells #[.int .u8 ((k : Int) % 256)] 5))).putp (x := ⟨bits .and .i64 aa 3, bits .and .i64 bb 3, k % 256, w3.heap.size⟩) ho4 hf4 hbk4 (Nat.mod_lt _ (by decide)) ((hf4.block _ (lt_of_block hd4) (fun e => by
    have := (hM3.p.lt _ e).2
    omega)).trans hd4)
  obtain ⟨no', nc', w5, hr5, ho5, hf5, hbk5⟩ := app_num w4 w.heap.size L.length _ hM4.q (by omega) hM4.f.size
  have hM5 := hM4.putq ho5 hf5 hbk5
  have hy := Nat.mod_lt k (show 0 < 256 by decide)
  have c2 : w5.cell? ⟨g2, k % 256, none⟩ = some (.int .i64 (G2 (k % 256) : Nat)) := cell_of_blk hM5.a2 (arr_at G2 _ hy)
  have z2 : w5.frozen? ⟨g2, k % 256, none⟩ = false := by simp [World.frozen?, hM5.a2]
  have hM6 := hM5.arr2 (k % 256) (G2 (k % 256) + 1) hy
  rw [show (((G2 (k % 256) + 1 : Nat)) : Int) = (G2 (k % 256) : Int) + 1 from rfl] at hM6
  have hP6 := (unhide HM).2.1.put ⟨bits .and .i64 aa 3, bits .and .i64 bb 3, [k % 256], 0, false⟩ ⟨bits .and .i64 aa 3, bits .and .i64 bb 3, k % 256, w3.heap.size⟩ rfl rfl rfl rfl (G2 (k % 256) + 1) rfl
  have hG2 : G2 (k % 256) ≤ 1048576 := by
    rw [(unhide HM).2.1.e2]
    exact Nat.le_trans List.countP_le_length (by have := (unhide HM).2.2; omega)
  have H6 := hide (And.intro hM6 (And.intro hP6 (show (ps ++ [(⟨bits .and .i64 aa 3, bits .and .i64 bb 3, [k % 256], 0, false⟩ : PK)]).length ≤ k + 1 by simp; exact hpk)))
  have HR4 := hide hr4
  have HR5 := hide hr5
  have hsz3 : (w3.alloc (.cells #[.int .u8 ((k : Int) % 256)] 5)).heap.size = w3.heap.size + 1 := by simp
  rw [hsz3] at HR4
  clear hsz3
  clear hr4 hr5 ho4 ho5 hf4 hf5 hbk4 hbk5 hd4 hM3 hM4 hM5 hM6 hP6 HS s0 s1 s2 s3
  go_wp2_with (first
    | (at_builtin; refine wpList_app rfl (.tmp 61) (.tmp 72) 42 42 rfl _ _ _ rfl rfl (unhide HR4) ?_)
    | (at_builtin; refine wpList_app rfl (.tmp 74) (.tmp 76) 52 52 rfl _ _ _ rfl rfl (unhide HR5) ?_))

  go_wp2_with fail
  refine (count_any d m 4 _ sv' T' _ (unhide H6).1.n).mono ?_
  rintro e w8 ⟨rfl, qq, hw8⟩
  have hf8 : Fr (fun _ => False) (w5.setCell ⟨g2, k % 256, none⟩ (.int .i64 ((G2 (k % 256) : Int) + 1))) w8 := by rw [hw8]; exact (Fr.refl _ _).drewN qq
  have H8 := hide (And.intro ((unhide H6).1.fr0 hf8) (unhide H6).2)
  clear hf8 hw8
  go_wp2_with fail
  refine (waiting_any d m 4 _ sv' T' w8 (unhide H8).1.n (by have := (unhide H8).2.2; omega)).mono ?_
  rintro e w9 ⟨vv, Lw, rfl, hO, hLw, hf9⟩
  obtain ⟨vo9, vc9, rfl⟩ := own_formX hO.row
  have hlw : Lw.length = (up (ps ++ [(⟨bits .and .i64 aa 3, bits .and .i64 bb 3, [k % 256], 0, false⟩ : PK)])).length := by simpa [wl] using congrArg List.length hLw
  have hln : (ps ++ [(⟨bits .and .i64 aa 3, bits .and .i64 bb 3, [k % 256], 0, false⟩ : PK)]).length = L.length + 1 := (unhide H8).2.1.ln.trans (by simp)
  have HCR : Hid (CR w w9 d m g1 (g2) (k + 1) (.slice po' (L.length + 1) pc') (.slice no' (L.length + 1) nc')) := ⟨_, _, _, _, _, _, _, (unhide H8).1.fr0 hf9, (unhide H8).2⟩
  obtain ⟨wS, Y, wT, wU⟩ := tail_w (ps ++ [(⟨bits .and .i64 aa 3, bits .and .i64 bb 3, [k % 256], 0, false⟩ : PK)]) (unhide H8).2.1.go Lw.length (L.length + 1) L.length hlw hln hLk (Nat.le_refl _) (N := (L.length : Int) + 1) rfl
  clear hO hLw hf9 H8 H6 hlw hln
  generalize cS (ps ++ [(⟨bits .and .i64 aa 3, bits .and .i64 bb 3, [k % 256], 0, false⟩ : PK)]) = s1 at *
  generalize cC (ps ++ [(⟨bits .and .i64 aa 3, bits .and .i64 bb 3, [k % 256], 0, false⟩ : PK)]) = s2 at *
  generalize cD (ps ++ [(⟨bits .and .i64 aa 3, bits .and .i64 bb 3, [k % 256], 0, false⟩ : PK)]) = s3 at *
  generalize cL (ps ++ [(⟨bits .and .i64 aa 3, bits .and .i64 bb 3, [k % 256], 0, false⟩ : PK)]) = s4 at *
  generalize Lw.length = s5 at *
  go_wp2_with fail
  refine ⟨?_, by simp [Wmu, intOf]; omega⟩
  unfold WI
  refine ⟨_, _, _, _, _, _, _, _, _, _, _, _, _, _, _, _, _, _, _, _, _, _, _, _, _, _, _, _, _, _, _, _, _, _, _, _, _, _, _, _, _, _, _, _, _, _, _, _, _, _, _, _, _, _, _, _, _, _, _, _, _, _, _, _, _, _, _, _, _, _, _, _, _, _, _, _, _, _, _, _, _, _, _, _, _, _, _, _, _, _, _, _, _, _, _, _, _, _, _, _, _, _, _, _, _, _, _, _, _, _, _, _, _, _, _, _, _, _, _, _, _, _, _, _, _, _, _, _, _, _, _, _, _, _, _, _, _, _, _, _, _, _, _, _, _, _, _, _, _, _, _, _, _, _, _, _, _, _, _, _, _, _, _, _, _, _, _, _, _, _, _, _, _, _, _, _, _, _, _, _, _, _, _, _, _, _, _, _, _, _, _, _, _, _, _, _, _, _, _, _, _, _, _, _, ⟨k + 1, by omega, by go_num, unhide HCR⟩, rfl⟩
end Go.Proofs.Ytedmhpplhbaglaa
