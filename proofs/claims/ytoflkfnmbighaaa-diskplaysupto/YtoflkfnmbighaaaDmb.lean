import Derived.Test.YtoflkfnmbighaaaDma
import Derived.Test.YtoflkfnmbighaaaDlq
namespace Go.Proofs.Ytoflkfnmbighaaa
open Go.RowKit Go.ChangeShapes Go.WideShapes Go.Maps

theorem cell_of_blk {w : World} {b t o : Nat} {cs : Array Value} {v : Value} (h : w.heap[b]? = some (.cells cs t)) (hv : cs[o]? = some v) : w.cell? ⟨b, o, none⟩ = some v := by
  simp [World.cell?, h, hv]
/-- A whole struct is stored into its box. -/
theorem setCells_blk (g t : Nat) : ∀ (vs olds pre : List Value) (o : Nat) (w : World), w.heap[g]? = some (.cells (pre ++ olds).toArray t) → olds.length = vs.length → pre.length = o → (w.setCells g o vs).heap[g]? = some (.cells (pre ++ vs).toArray t)
  | [], olds, pre, o, w, h, hl, _ => by
    obtain rfl := List.eq_nil_of_length_eq_zero hl
    exact h
  | v :: vs, [], pre, o, w, h, hl, _ => by cases hl
  | v :: vs, a :: olds, pre, o, w, h, hl, ho => by
    rw [World.setCells]
    have := setCells_blk g t vs olds (pre ++ [v]) (o + 1) (w.setCell ⟨g, o, none⟩ v) (by rw [blkset h]; subst ho; simp) (by simpa using hl) (by simp [ho])
    simpa using this
theorem st_all {P : Program} {W : World} {g t ty : Nat} (olds news : List Value) (hb : W.heap[g]? = some (.cells olds.toArray t)) (hl : olds.length = news.length) (hi : (P.info? ty).map (·.size) = some news.length) (h1 : ∀ v ∈ news, v.oneCell' = true) :
    ∃ W8, (Instr.storeAt ty (.pointer (some ⟨g, 0, none⟩)) (.agg news.toArray)).run P W = .ok () W8 ∧ W8.heap[g]? = some (.cells news.toArray t) ∧ Fr (fun k => k = g) W W8 := by
  refine ⟨W.setCells g 0 news, run_storeAt_mid W g 0 ty news.toArray (fun j hj => ?_) (by simpa using hi) (all_oneCell_toArray h1), ?_, setCells_fr g news 0 W⟩
  · have hj : j < news.length := by simpa using hj
    have hj2 : j < olds.length := by omega
    refine ⟨?_, by simp [World.frozen?, hb]⟩
    simp [World.cell?, hb, hj2]
  · have := setCells_blk g t news olds [] 0 W (by simpa using hb) hl rfl
    simpa using this
theorem wpList_stN {P : Program} {w w' : World} {ops : Array Oper} {rest : List Oper} {op : Oper} {a : Act} {Q : Exit → Act → World → Prop} (hgd : op.guard = none) (ty : TypeId) (x y : Operand) (ho : op.op = .store ty x y)
    (p v : Value) (hx : a.eval x = p) (hy : a.eval y = v) (hr : (Instr.storeAt ty p v).run P w = .ok () w')
    (h : wpList P ops Q rest (a.put op.dst undef) w') : wpList P ops Q (op :: rest) a w :=
  wpList_plain hgd fun _ hK => by
    unfold Oper.wp execOp
    simp only [ho, hx, hy, Sem.run_bind, hr, Result.andThen_ok, Sem.run_pure]
    exact hK _ _ h
theorem range_of_block {W : World} {b : Nat} {cs : List Value} {t : TypeId} (h : W.heap[b]? = some (.cells cs.toArray t)) : W.rangeAt b 0 cs := by
  intro j v hv
  simp only [World.cell?, h]
  simpa using hv
theorem results_cell_mid {P : Program} {fn : Func} {p : Tmp} {ty : TypeId} (h : fn.results = #[.cell p ty]) (tmps : Array Value) (w : World) (b o : Nat) (cs : List Value) (d : TypeDesc)
    (hp : tmps.getD p undef = .pointer (some ⟨b, o, none⟩)) (hc : w.rangeAt b o cs)
    (hu : P.underlying ty = some d) (hd : d.isRow = true) (hi : (P.info? ty).map (·.size) = some cs.length) :
    (results fn tmps).run P w = .ok (.agg cs.toArray) w := by
  have hp' : tmps[p]?.getD undef = .pointer (some ⟨b, o, none⟩) := by simpa using hp
  simp [results, h, hp', asAddr, run_loadVar_mid w b o ty cs d hc hu hd hi]
theorem results_cellt {P : Program} {fn : Func} {p u : Tmp} {ty : TypeId} (h : fn.results = #[.cell p ty, .tmp u]) (tmps : Array Value) (w : World) (b o : Nat) (cs : List Value) (d : TypeDesc) (x : Value)
    (hp : tmps.getD p undef = .pointer (some ⟨b, o, none⟩)) (hx : tmps.getD u undef = x) (hc : w.rangeAt b o cs)
    (hu : P.underlying ty = some d) (hd : d.isRow = true) (hi : (P.info? ty).map (·.size) = some cs.length) :
    (results fn tmps).run P w = .ok (.tuple #[.agg cs.toArray, x]) w := by
  have hp' : tmps[p]?.getD undef = .pointer (some ⟨b, o, none⟩) := by simpa using hp
  have hx' : tmps[u]?.getD undef = x := by simpa using hx
  simp [results, h, hp', hx', asAddr, run_loadVar_mid w b o ty cs d hc hu hd hi]
def bc3 (x : RB) : List Value := [.int .u8 ((x.v % 256 : Nat) : Int), .int .i64 (x.b : Nat), .bool x.s]
def bcells (l : List RB) : List Value := l.flatMap bc3
/-- A file of the document's disk, with its slice. -/
abbrev GF := RFl × Value
def fc2 (x : GF) : List Value := [.string x.1.name, x.2]
def gcells (Fs : List GF) : List Value := Fs.flatMap fc2
theorem bcells_app (A B : List RB) : bcells (A ++ B) = bcells A ++ bcells B := by simp [bcells]
theorem gcells_app (A B : List GF) : gcells (A ++ B) = gcells A ++ gcells B := by simp [gcells]
theorem bcells_cons (y : RB) (A : List RB) : bcells (y :: A) = bc3 y ++ bcells A := by simp [bcells]
theorem gcells_cons (y : GF) (A : List GF) : gcells (y :: A) = fc2 y ++ gcells A := by simp [gcells]
theorem bcells_len (A : List RB) : (bcells A).length = A.length * 3 := by
  induction A with
  | nil => rfl
  | cons a A ih =>
    rw [bcells_cons, List.length_append, ih, List.length_cons]
    simp [bc3]
    omega
theorem gcells_len (A : List GF) : (gcells A).length = A.length * 2 := by
  induction A with
  | nil => rfl
  | cons a A ih =>
    rw [gcells_cons, List.length_append, ih, List.length_cons]
    simp [fc2]
    omega
theorem bcells_at {A : List RB} {i : Nat} {x : RB} (h : A[i]? = some x) : (bcells A)[i * 3]? = some (.int .u8 ((x.v % 256 : Nat) : Int)) ∧ (bcells A)[i * 3 + 1]? = some (.int .i64 (x.b : Nat)) ∧ (bcells A)[i * 3 + 2]? = some (.bool x.s) := by
  induction A generalizing i with
  | nil => simp at h
  | cons y A ih =>
    rcases i with _ | i
    · simp at h
      subst h
      simp [bcells_cons, bc3]
    · obtain ⟨i0, i1, i2⟩ := ih (i := i) (by simpa using h)
      rw [bcells_cons, show (i + 1) * 3 = i * 3 + 3 by omega]
      have hl : (bc3 y).length = 3 := rfl
      refine ⟨?_, ?_, ?_⟩
      · rw [List.getElem?_append_right (by omega), hl, show i * 3 + 3 - 3 = i * 3 by omega]; exact i0
      · rw [List.getElem?_append_right (by omega), hl, show i * 3 + 3 + 1 - 3 = i * 3 + 1 by omega]; exact i1
      · rw [List.getElem?_append_right (by omega), hl, show i * 3 + 3 + 2 - 3 = i * 3 + 2 by omega]; exact i2
theorem gcells_at {A : List GF} {i : Nat} {x : GF} (h : A[i]? = some x) : (gcells A)[i * 2]? = some (.string x.1.name) ∧ (gcells A)[i * 2 + 1]? = some x.2 := by
  induction A generalizing i with
  | nil => simp at h
  | cons y A ih =>
    rcases i with _ | i
    · simp at h
      subst h
      simp [gcells_cons, fc2]
    · obtain ⟨i0, i1⟩ := ih (i := i) (by simpa using h)
      rw [gcells_cons, show (i + 1) * 2 = i * 2 + 2 by omega]
      have hl : (fc2 y).length = 2 := rfl
      refine ⟨?_, ?_⟩
      · rw [List.getElem?_append_right (by omega), hl, show i * 2 + 2 - 2 = i * 2 by omega]; exact i0
      · rw [List.getElem?_append_right (by omega), hl, show i * 2 + 2 + 1 - 2 = i * 2 + 1 by omega]; exact i1
theorem bcells_set (A : List RB) (i : Nat) (x : RB) (h : A[i]? = some x) (j : Nat) (z : Value) (y : RB) (hj : j < 3) (hy : (bc3 x).set j z = bc3 y) : (bcells A).set (i * 3 + j) z = bcells (A.set i y) := by
  induction A generalizing i with
  | nil => simp at h
  | cons a A ih =>
    rcases i with _ | i
    · simp at h
      subst h
      rw [List.set_cons_zero, bcells_cons, bcells_cons, ← hy, show 0 * 3 + j = j by omega, List.set_append_left _ _ (by simp [bc3]; omega)]
    · rw [List.set_cons_succ, bcells_cons, bcells_cons, ← ih i (by simpa using h), show (i + 1) * 3 + j = (bc3 a).length + (i * 3 + j) by simp [bc3]; omega, List.set_append_right _ _ (by omega)]
      congr 2
      omega
theorem gcells_set (A : List GF) (i : Nat) (x : GF) (h : A[i]? = some x) (z : Value) (y : GF) (hy : (fc2 x).set 1 z = fc2 y) : (gcells A).set (i * 2 + 1) z = gcells (A.set i y) := by
  induction A generalizing i with
  | nil => simp at h
  | cons a A ih =>
    rcases i with _ | i
    · simp at h
      subst h
      rw [List.set_cons_zero, gcells_cons, gcells_cons, ← hy, show 0 * 2 + 1 = 1 by omega, List.set_append_left _ _ (by simp [fc2])]
    · rw [List.set_cons_succ, gcells_cons, gcells_cons, ← ih i (by simpa using h), show (i + 1) * 2 + 1 = (fc2 a).length + (i * 2 + 1) by simp [fc2]; omega, List.set_append_right _ _ (by omega)]
      congr 2
      omega
theorem bcells_one (A : List RB) : ∀ u ∈ bcells A, u.oneCell' = true := by
  intro u hu
  simp only [bcells, List.mem_flatMap] at hu
  obtain ⟨x, _, h⟩ := hu
  simp [bc3] at h
  rcases h with rfl | rfl | rfl <;> rfl
theorem Try.infoBy : (Try.prog.info? 89).map (fun i => (i.zero, i.size, i.bytes)) = some (some (.agg #[.int .u8 0, .int .i64 0, .bool false]), 3, 24) := by kernel_rfl
theorem Try.infoFi : (Try.prog.info? 60).map (fun i => (i.zero, i.size, i.bytes)) = some (some (.agg #[.string ⟨#[]⟩, .slice none 0 0]), 2, 40) := by kernel_rfl
/-- The document's files in memory: their blocks are among T. -/
structure GAt (W : World) (v : Value) (Fs : List GF) (T : Nat → Prop) : Prop where
  row : W.ownsRow 0 60 2 v Fs.length (gcells Fs)
  b : ∀ x ∈ Fs, W.ownsRow 0 89 3 x.2 x.1.rb.length (bcells x.1.rb)
  ap : ∀ (i j : Nat) (x y : GF), Fs[i]? = some x → Fs[j]? = some y → i ≠ j → ∀ g, x.2.ownBlock = some g → y.2.ownBlock ≠ some g
  tr : ∀ g, v.ownBlock = some g → T g
  tb : ∀ x ∈ Fs, ∀ g, x.2.ownBlock = some g → T g
  lt : ∀ g, T g → g < W.heap.size
theorem GAt.fr {W W' : World} {v : Value} {Fs : List GF} {T S : Nat → Prop} (h : GAt W v Fs T) (hf : Fr S W W') (hS : ∀ k, T k → ¬ S k) : GAt W' v Fs T :=
  ⟨ownsRow_of_block h.row (fun g hg => hf.block g (h.lt g (h.tr g hg)) (hS g (h.tr g hg))), fun x hx => ownsRow_of_block (h.b x hx) (fun g hg => hf.block g (h.lt g (h.tb x hx g hg)) (hS g (h.tb x hx g hg))), h.ap, h.tr, h.tb, fun g hg => Nat.lt_of_lt_of_le (h.lt g hg) hf.size⟩
theorem GAt.fr0 {W W' : World} {v : Value} {Fs : List GF} {T : Nat → Prop} (h : GAt W v Fs T) (hf : Fr (fun _ => False) W W') : GAt W' v Fs T := h.fr hf (fun _ _ h => h)
theorem GAt.at_ {W : World} {ao : Option Addr} {n c : Nat} {Fs : List GF} {T : Nat → Prop} (h : GAt W (.slice ao n c) Fs T) {i : Nat} {x : GF} (hx : Fs[i]? = some x) : ∃ g, ao = some ⟨g, 0, none⟩ ∧ T g ∧ W.cell? ⟨g, i * 2, none⟩ = some (.string x.1.name) ∧ W.cell? ⟨g, i * 2 + 1, none⟩ = some x.2 ∧ ∀ j, W.frozen? ⟨g, j, none⟩ = false := by
  have hlt := (List.getElem?_eq_some_iff.1 hx).1
  obtain ⟨g, rfl⟩ : ∃ g, ao = some ⟨g, 0, none⟩ := by
    rcases h.row.2 with ⟨_, e⟩ | ⟨g, c', cur, e, _⟩
    · omega
    · simp only [Value.slice.injEq] at e; exact ⟨g, e.1⟩
  obtain ⟨i0, i1⟩ := gcells_at hx
  have hn : n = Fs.length := by obtain ⟨ao', c', e⟩ := own_formX h.row; simp only [Value.slice.injEq] at e; exact e.2.1
  subst hn
  refine ⟨g, rfl, h.tr g rfl, (h.row.cellAt _ (by omega)).trans i0, (h.row.cellAt _ (by omega)).trans i1, fun j => ?_⟩
  obtain ⟨cur, hb⟩ := own_blk h.row rfl
  simp [World.frozen?, hb]
theorem row_at {W : World} {base n c : Nat} {ao : Option Addr} {l : List RB} (h : W.ownsRow base 89 3 (.slice ao n c) l.length (bcells l)) {i : Nat} {x : RB} (hx : l[i]? = some x) : ∃ g, ao = some ⟨g, 0, none⟩ ∧ n = l.length ∧ l.length ≤ c ∧ g < W.heap.size ∧ W.cell? ⟨g, i * 3, none⟩ = some (.int .u8 ((x.v % 256 : Nat) : Int)) ∧ W.cell? ⟨g, i * 3 + 1, none⟩ = some (.int .i64 (x.b : Nat)) ∧ W.cell? ⟨g, i * 3 + 2, none⟩ = some (.bool x.s) ∧ ∀ j, W.frozen? ⟨g, j, none⟩ = false := by
  have hlt := (List.getElem?_eq_some_iff.1 hx).1
  obtain ⟨g, rfl, rfl, hc⟩ : ∃ g, ao = some ⟨g, 0, none⟩ ∧ n = l.length ∧ l.length ≤ c := by
    rcases h.2 with ⟨_, e⟩ | ⟨g, c', cur, e, _, _, hc, _⟩
    · omega
    · simp only [Value.slice.injEq] at e; exact ⟨g, e.1, e.2.1, by omega⟩
  obtain ⟨i0, i1, i2⟩ := bcells_at hx
  refine ⟨g, rfl, rfl, hc, (h.lt g rfl).2, (h.cellAt _ (by omega)).trans i0, (h.cellAt _ (by omega)).trans i1, (h.cellAt _ (by omega)).trans i2, fun j => ?_⟩
  obtain ⟨cur, hb⟩ := own_blk h rfl
  simp [World.frozen?, hb]
/-- A file's slice. -/
theorem GAt.form {W : World} {v : Value} {Fs : List GF} {T : Nat → Prop} (h : GAt W v Fs T) {i : Nat} {x : GF} (hx : Fs[i]? = some x) : ∃ bo bc, x.2 = .slice bo x.1.rb.length bc := own_formX (h.b x (List.mem_of_getElem? hx))
/-- The document's disk as a value. -/
def RD.agg (r : RD) (v : Value) : Value := .agg #[.int .i64 (r.limit : Nat), .int .i64 (r.born : Nat), .int .i64 (r.writes : Nat), v, .int .i64 r.armed, .int .i64 r.tear, .bool r.off, .bool r.full]
def RD.cells (r : RD) (v : Value) : Array Value := #[.int .i64 (r.limit : Nat), .int .i64 (r.born : Nat), .int .i64 (r.writes : Nat), v, .int .i64 r.armed, .int .i64 r.tear, .bool r.off, .bool r.full]
/-- A file's place by its name. -/
def nix (fs : List RFl) (x : ByteArray) : Option Nat := fs.findIdx? fun f => decide (nm f.name = nm x)
def fixO (o : Option Nat) : Int := match o with
  | some j => (j : Int)
  | none => -1
theorem nix_at {fs : List RFl} {x : ByteArray} {j : Nat} (hj : j < fs.length) (h : ∀ i (hi : i < fs.length), i < j → ¬ nm fs[i].name = nm x) (e : nm fs[j].name = nm x) : nix fs x = some j := by
  unfold nix
  rw [List.findIdx?_eq_some_iff_getElem]
  exact ⟨hj, by simpa using e, fun i hi => by simpa using h i (by omega) hi⟩
theorem nix_no {fs : List RFl} {x : ByteArray} (h : ∀ i (hi : i < fs.length), ¬ nm fs[i].name = nm x) : nix fs x = none := by
  unfold nix
  rw [List.findIdx?_eq_none_iff]
  intro f hf
  obtain ⟨i, hi, rfl⟩ := List.getElem_of_mem hf
  simpa using h i hi
theorem toList_nm (s : ByteArray) : s.toList = nm s := Lib.toList_data s
theorem tl_eq (v a : ByteArray) : (v.toList == a.toList) = decide (nm v = nm a) := by
  rw [toList_nm, toList_nm]
  exact Bool.eq_iff_iff.mpr (by simp)
theorem Try.eqlN (v a : ByteArray) (w : World) : (binOp .eql 9 (.string v) (.string a)).run Try.prog w = .ok (.bool (decide (nm v = nm a))) w := by
  have h : (binOp .eql 9 (.string v) (.string a)).run Try.prog w = .ok (.bool (v.toList == a.toList)) w := by simp [binOp, Op.stringOp]
  rw [h, toList_nm, toList_nm]
  congr 2
  exact Bool.eq_iff_iff.mpr (by simp)
end Go.Proofs.Ytoflkfnmbighaaa
