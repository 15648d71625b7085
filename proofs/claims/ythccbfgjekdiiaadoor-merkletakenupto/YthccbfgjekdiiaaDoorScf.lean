import Derived.Test.YthccbfgjekdiiaaDoorSce
namespace Go.Proofs.YthccbfgjekdiiaaDoor
open Go.RowKit
abbrev o9_0 : Oper := { dst := some 57, op := Op.move (Operand.tmp 0), type := 121, pos := "sha.go:35", after := #[], guard := none }
abbrev o9_1 : Oper := { dst := some 58, op := Op.move (Operand.tmp 0), type := 121, pos := "sha.go:35", after := #[], guard := none }
abbrev o9_2 : Oper := { dst := some 59, op := Op.nilCheck (Operand.tmp 58), type := 0, pos := "sha.go:35", after := #[{ on := 1, ground := Ground.data }], guard := none }
abbrev o9_3 : Oper := { dst := some 60, op := Op.fieldAddr 93 (Operand.tmp 59) 0, type := 0, pos := "sha.go:35", after := #[{ on := 2, ground := Ground.data }], guard := none }
abbrev o9_4 : Oper := { dst := some 61, op := Op.load 88 (Operand.tmp 60), type := 88, pos := "sha.go:35", after := #[{ on := 3, ground := Ground.data }], guard := none }
abbrev o9_5 : Oper := { dst := some 62, op := Op.move (Operand.tmp 1), type := 25, pos := "sha.go:35", after := #[], guard := none }
abbrev o9_6 : Oper := { dst := some 63, op := Op.sliceToArrayPointer 90 (Operand.tmp 62), type := 0, pos := "sha.go:35", after := #[{ on := 5, ground := Ground.data }], guard := none }
abbrev o9_7 : Oper := { dst := some 64, op := Op.load 90 (Operand.tmp 63), type := 90, pos := "sha.go:35", after := #[{ on := 6, ground := Ground.data }], guard := none }
abbrev o9_8 : Oper := { dst := some 65, op := Op.call { callee := Callee.value (Operand.func 83), args := #[Operand.tmp 61, Operand.tmp 64], argTypes := #[88, 90] }, type := 88, pos := "sha.go:35", after := #[{ on := 4, ground := Ground.data }, { on := 7, ground := Ground.data }], guard := none }
abbrev o9_9 : Oper := { dst := some 66, op := Op.nilCheck (Operand.tmp 57), type := 0, pos := "sha.go:35", after := #[{ on := 0, ground := Ground.data }, { on := 0, ground := Ground.phase }, { on := 1, ground := Ground.phase }, { on := 2, ground := Ground.phase }, { on := 3, ground := Ground.phase }, { on := 4, ground := Ground.phase }, { on := 5, ground := Ground.phase }, { on := 6, ground := Ground.phase }, { on := 7, ground := Ground.phase }, { on := 8, ground := Ground.phase }], guard := none }
abbrev o9_10 : Oper := { dst := some 67, op := Op.fieldAddr 93 (Operand.tmp 66) 0, type := 0, pos := "sha.go:35", after := #[{ on := 9, ground := Ground.data }, { on := 0, ground := Ground.phase }, { on := 1, ground := Ground.phase }, { on := 2, ground := Ground.phase }, { on := 3, ground := Ground.phase }, { on := 4, ground := Ground.phase }, { on := 5, ground := Ground.phase }, { on := 6, ground := Ground.phase }, { on := 7, ground := Ground.phase }, { on := 8, ground := Ground.phase }], guard := none }
abbrev o9_11 : Oper := { dst := none, op := Op.store 88 (Operand.tmp 67) (Operand.tmp 65), type := 0, pos := "sha.go:35", after := #[{ on := 10, ground := Ground.data }, { on := 8, ground := Ground.data }, { on := 8, ground := Ground.chain }, { on := 0, ground := Ground.phase }, { on := 1, ground := Ground.phase }, { on := 2, ground := Ground.phase }, { on := 3, ground := Ground.phase }, { on := 4, ground := Ground.phase }, { on := 5, ground := Ground.phase }, { on := 6, ground := Ground.phase }, { on := 7, ground := Ground.phase }, { on := 8, ground := Ground.phase }], guard := none }
def ops9 : Array Oper := #[o9_0, o9_1, o9_2, o9_3, o9_4, o9_5, o9_6, o9_7, o9_8, o9_9, o9_10, o9_11]
theorem x_sap (r : Operand → Value) (o : Oper) (x : Operand) (ho : o.op = .sliceToArrayPointer 90 x) (g f n cp : Nat) (h : r x = .slice (some ⟨g, f, none⟩) n cp) (hn : 64 ≤ n) (w : World) : (execOp r o).run Tryd.prog w = .ok (.value (.pointer (some ⟨g, f, none⟩))) w := by
  have hn2 : (Instr.arrayAt 90 (.slice (some ⟨g, f, none⟩) n cp)).run Tryd.prog w = .ok (.pointer (some ⟨g, f, none⟩)) w := by simp [Instr.arrayAt, run_underlying Tryd.underlying90, Nat.not_lt.2 hn]
  unfold execOp
  simp only [ho, h]
  simp [hn2]
/-- What the temporaries hold behind region 9. -/
def put9 (a : Act) (b o g f n cp : Nat) (st bl r : Value) : Act :=
  (((((((((((a.put (some 57) (.pointer (some ⟨b, o, none⟩))).put (some 58) (.pointer (some ⟨b, o, none⟩))).put (some 59) (.pointer (some ⟨b, o, none⟩))).put (some 60) (.pointer (some ⟨b, o, none⟩))).put (some 62) (.slice (some ⟨g, f, none⟩) n cp)).put (some 63) (.pointer (some ⟨g, f, none⟩))).put (some 61) st).put (some 64) bl).put (some 65) r).put (some 66) (.pointer (some ⟨b, o, none⟩))).put (some 67) (.pointer (some ⟨b, o, none⟩)))
set_option linter.unusedSimpArgs false in
set_option maxHeartbeats 400000 in
set_option maxRecDepth 100000 in
/-- Region 9: a block of what is written is folded. -/
theorem reg9 {Q : Exit → Act → World → Prop} (hQ : ∀ c (a : Act) d v w, Q (.panic c) (a.put d v) w → Q (.panic c) a w) (a : Act) (w : World) (b o t g f n cp : Nat) (s : S8) (F : Nat → Nat) (l : List Nat) (ha : 67 < a.tmps.size) (h0 : a.eval (.tmp 0) = .pointer (some ⟨b, o, none⟩)) (h1 : a.eval (.tmp 1) = .slice (some ⟨g, f, none⟩) n cp) (hn : 64 ≤ n)
    (hH : HsAt w b o s F t) (hg : GK w) (hs : s.ok) (hl : l.length = 64) (hb : ∀ j, l.getD j 0 < 256) (hc : w.rangeAt g f (V8 l))
    (h : ∀ w2, Fr (fun _ => False) w w2 → Q .normal (put9 a b o g f n cp (.agg s.cells.toArray) (.agg (V8 l).toArray) (.agg (fo s l).cells.toArray)) (w2.setCells b o (fo s l).cells)) :
    (Code.region 9 ops9 true).wp Tryd.prog Q a w := by
  have g57 : 57 < a.tmps.size := by omega
  have g58 : 58 < a.tmps.size := by omega
  have g59 : 59 < a.tmps.size := by omega
  have g60 : 60 < a.tmps.size := by omega
  have g61 : 61 < a.tmps.size := by omega
  have g62 : 62 < a.tmps.size := by omega
  have g63 : 63 < a.tmps.size := by omega
  have g64 : 64 < a.tmps.size := by omega
  have g65 : 65 < a.tmps.size := by omega
  have g66 : 66 < a.tmps.size := by omega
  refine wp_region_any (by kernel_rfl) ?_
  change wpAny _ _ _ _ _ _ _ (World.drew _)
  refine wpAny_take (i := 0) (oi := o9_0) (v := .pointer (some ⟨b, o, none⟩)) rfl (by kernel_rfl) (by kernel_rfl) (by kernel_rfl) (fun _ _ _ h => hQ _ _ _ _ _ h) (Or.inl ⟨by rfl, fun w => by rw [x_move _ _ (.tmp 0) rfl]; simp [ev_put, put_size, h0, h1, g57, g58, g59, g60, g61, g62, g63, g64, g65, g66]⟩) ?_
  refine wpAny_take (i := 1) (oi := o9_1) (v := .pointer (some ⟨b, o, none⟩)) rfl (by kernel_rfl) (by kernel_rfl) (by kernel_rfl) (fun _ _ _ h => hQ _ _ _ _ _ h) (Or.inl ⟨by rfl, fun w => by rw [x_move _ _ (.tmp 0) rfl]; simp [ev_put, put_size, h0, h1, g57, g58, g59, g60, g61, g62, g63, g64, g65, g66]⟩) ?_
  refine wpAny_take (i := 2) (oi := o9_2) (v := .pointer (some ⟨b, o, none⟩)) rfl (by kernel_rfl) (by kernel_rfl) (by kernel_rfl) (fun _ _ _ h => hQ _ _ _ _ _ h) (Or.inl ⟨by rfl, fun w => x_nil _ _ (.tmp 58) rfl _ (by simp [ev_put, put_size, h0, h1, g57, g58, g59, g60, g61, g62, g63, g64, g65, g66]) w⟩) ?_
  refine wpAny_take (i := 3) (oi := o9_3) (v := .pointer (some ⟨b, o, none⟩)) rfl (by kernel_rfl) (by kernel_rfl) (by kernel_rfl) (fun _ _ _ h => hQ _ _ _ _ _ h) (Or.inl ⟨by rfl, fun w => x_f0 _ _ (.tmp 59) rfl _ _ (by simp [ev_put, put_size, h0, h1, g57, g58, g59, g60, g61, g62, g63, g64, g65, g66]) w⟩) ?_
  refine wpAny_take (i := 5) (oi := o9_5) (v := .slice (some ⟨g, f, none⟩) n cp) rfl (by kernel_rfl) (by kernel_rfl) (by kernel_rfl) (fun _ _ _ h => hQ _ _ _ _ _ h) (Or.inl ⟨by rfl, fun w => by rw [x_move _ _ (.tmp 1) rfl]; simp [ev_put, put_size, h0, h1, g57, g58, g59, g60, g61, g62, g63, g64, g65, g66]⟩) ?_
  refine wpAny_take (i := 6) (oi := o9_6) (v := .pointer (some ⟨g, f, none⟩)) rfl (by kernel_rfl) (by kernel_rfl) (by kernel_rfl) (fun _ _ _ h => hQ _ _ _ _ _ h) (Or.inl ⟨by rfl, fun w => x_sap _ _ (.tmp 62) rfl _ _ n cp (by simp [ev_put, put_size, h0, h1, g57, g58, g59, g60, g61, g62, g63, g64, g65, g66]) hn w⟩) ?_
  obtain ⟨A, hA⟩ : ∃ A, ((((((a.put o9_0.dst (.pointer (some ⟨b, o, none⟩))).put o9_1.dst (.pointer (some ⟨b, o, none⟩))).put o9_2.dst (.pointer (some ⟨b, o, none⟩))).put o9_3.dst (.pointer (some ⟨b, o, none⟩))).put o9_5.dst (.slice (some ⟨g, f, none⟩) n cp)).put o9_6.dst (.pointer (some ⟨g, f, none⟩))) = A := ⟨_, rfl⟩
  rw [hA]
  have e60 : A.eval (.tmp 60) = .pointer (some ⟨b, o, none⟩) := by rw [← hA]; simp [ev_put, put_size, h0, h1, g57, g58, g59, g60, g61, g62, g63, g64, g65, g66]
  have e63 : A.eval (.tmp 63) = .pointer (some ⟨g, f, none⟩) := by rw [← hA]; simp [ev_put, put_size, h0, h1, g57, g58, g59, g60, g61, g62, g63, g64, g65, g66]
  have e57 : A.eval (.tmp 57) = .pointer (some ⟨b, o, none⟩) := by rw [← hA]; simp [ev_put, put_size, h0, h1, g57, g58, g59, g60, g61, g62, g63, g64, g65, g66]
  have hAs : A.tmps.size = a.tmps.size := by rw [← hA]; simp [put_size]
  have hr1 : w.drew.rangeAt b o s.cells := hH.st
  have hr2 : w.drew.rangeAt g f (V8 l) := hc
  have hi2 : (Tryd.prog.info? 90).map (·.size) = some (V8 l).length := by rw [V8_len, hl]; exact info_bl
  have hput : put9 a b o g f n cp (.agg s.cells.toArray) (.agg (V8 l).toArray) (.agg (fo s l).cells.toArray) = ((((A.put (some 61) (.agg s.cells.toArray)).put (some 64) (.agg (V8 l).toArray)).put (some 65) (.agg (fo s l).cells.toArray)).put (some 66) (.pointer (some ⟨b, o, none⟩))).put (some 67) (.pointer (some ⟨b, o, none⟩)) := by rw [← hA]; rfl
  rw [hput] at h
  have hgd : GK w.drew := hg
  have hH2 : ∀ w2, Fr (fun _ => False) w.drew w2 → HsAt w2 b o s F t := fun w2 hf => hH.fr (S := fun _ => False) (Fr.trans (S := fun _ => False) (⟨rfl, rfl, rfl, Nat.le_refl _, fun _ _ _ => rfl⟩ : Fr (fun _ => False) w w.drew) hf (fun _ _ h => h)) (fun h => h)
  refine any_ld2 (i := 4) (j := 7) (op := o9_4) (oq := o9_7) (by kernel_rfl) (by kernel_rfl) (by kernel_rfl) (by kernel_rfl) (by kernel_rfl) rfl rfl 61 64 60 63 88 90 (by decide) rfl rfl rfl rfl (by decide) (by decide) b o g f e60 e63 s.cells (V8 l) _ _ hr1 hr2 Tryd.underlying88 Tryd.underlying90 rfl rfl info_st hi2 ?_ (by kernel_rfl)
  refine any_fold (i := 8) (op := o9_8) (by kernel_rfl) (by kernel_rfl) rfl 65 rfl (.tmp 61) (.tmp 64) _ rfl s l hs hl hb hgd (by simp [ev_put, put_size, hAs, g61, g64]) (by simp [ev_put, put_size, hAs, g61, g64]) (fun w2 hf => ?_)
  refine any_run (i := 9) (op := o9_9) (by kernel_rfl) (by kernel_rfl) rfl 66 rfl (x_nil _ _ (.tmp 57) rfl ⟨b, o, none⟩ (by simp [ev_put, put_size, e57]) _) ?_
  refine any_run (i := 10) (op := o9_10) (by kernel_rfl) (by kernel_rfl) rfl 67 rfl (x_f0 _ _ (.tmp 66) rfl b o (by simp [ev_put, put_size, hAs, g66]) _) ?_
  refine any_st (i := 11) (op := o9_11) (by kernel_rfl) (by kernel_rfl) rfl rfl 88 (.tmp 67) (.tmp 65) rfl b o (fo s l).cells.toArray (by simp [ev_put, put_size, hAs, ha]) (by simp [ev_put, put_size, hAs, g65]) (hH2 w2 hf).thereS info_st (all_oneCell_toArray (V32_one (fo s l).vals)) ?_
  refine wpAny_done (by kernel_rfl) ?_ _
  exact h w2 (Fr.trans (S := fun _ => False) (⟨rfl, rfl, rfl, Nat.le_refl _, fun _ _ _ => rfl⟩ : Fr (fun _ => False) w w.drew) hf (fun _ _ h => h))
end Go.Proofs.YthccbfgjekdiiaaDoor
