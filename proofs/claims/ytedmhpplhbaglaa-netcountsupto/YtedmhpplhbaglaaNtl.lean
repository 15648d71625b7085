import Derived.Test.YtedmhpplhbaglaaNtk
namespace Go.Proofs.Ytedmhpplhbaglaa
open Go.RowKit Go.ChangeShapes Go.WideShapes Go.Maps

/-- Two nets apart, made since w; the second one is empty. -/
structure KW (w W : World) (d m : Nat) (ps : List PK) (sv : Nat → Option Addr × Nat) (T : Nat → Prop) (d' m' : Nat) : Prop where
  a : NtAt W d m 2 ps sv T
  b : NtAt W d' m' 2 [] (fun _ => (none, 0)) (fun _ => False)
  f : Fr (fun _ => False) w W
  n : w.heap.size ≤ d ∧ w.heap.size ≤ m ∧ w.heap.size ≤ d' ∧ w.heap.size ≤ m'
  ap : d ≠ d' ∧ d ≠ m' ∧ m ≠ d' ∧ m ≠ m'
  t : ∀ g, T g → w.heap.size ≤ g ∧ g ≠ d' ∧ g ≠ m'
theorem KW.fr {w W W' : World} {d m d' m' : Nat} {ps : List PK} {sv : Nat → Option Addr × Nat} {T S : Nat → Prop} (h : KW w W d m ps sv T d' m') (hf : Fr S W W') (hS : ∀ k, S k → w.heap.size ≤ k ∧ k ≠ d ∧ k ≠ m ∧ k ≠ d' ∧ k ≠ m' ∧ ¬ T k) : KW w W' d m ps sv T d' m' :=
  ⟨h.a.fr hf (fun e => (hS _ e).2.1 rfl) (fun e => (hS _ e).2.2.1 rfl) (fun g hg e => (hS g e).2.2.2.2.2 hg), h.b.fr hf (fun e => (hS _ e).2.2.2.1 rfl) (fun e => (hS _ e).2.2.2.2.1 rfl) (fun _ hg => hg.elim), h.f.absorb hf (fun k e => (hS k e).1), h.n, h.ap, h.t⟩
theorem KW.fr0 {w W W' : World} {d m d' m' : Nat} {ps : List PK} {sv : Nat → Option Addr × Nat} {T : Nat → Prop} (h : KW w W d m ps sv T d' m') (hf : Fr (fun _ => False) W W') : KW w W' d m ps sv T d' m' := h.fr hf (fun _ h => h.elim)
theorem KW.step {w W W' : World} {d m d' m' : Nat} {ps ps' : List PK} {sv sv' : Nat → Option Addr × Nat} {T T' : Nat → Prop} (h : KW w W d m ps sv T d' m') (hN : NtAt W' d m 2 ps' sv' T') (hf : Fr (fun k => k = d ∨ k = m) W W') (hT : ∀ g, T' g → T g ∨ W.heap.size ≤ g) : KW w W' d m ps' sv' T' d' m' := by
  obtain ⟨n1, n2, n3, n4⟩ := h.n
  obtain ⟨a1, a2, a3, a4⟩ := h.ap
  have hb := h.b.lt
  refine ⟨hN, h.b.fr hf (fun e => e.elim (fun e => a1 e.symm) (fun e => a3 e.symm)) (fun e => e.elim (fun e => a2 e.symm) (fun e => a4 e.symm)) (fun _ hg => hg.elim), h.f.absorb hf (fun k e => by rcases e with rfl | rfl <;> assumption), h.n, h.ap, fun g hg => ?_⟩
  rcases hT g hg with h1 | h1
  · exact h.t g h1
  · have := h.f.size
    omega
/-- A block made since W meets no net of it. -/
theorem KW.new {w W : World} {d m d' m' : Nat} {ps : List PK} {sv : Nat → Option Addr × Nat} {T : Nat → Prop} (h : KW w W d m ps sv T d' m') (k : Nat) (hk : W.heap.size ≤ k) : w.heap.size ≤ k ∧ k ≠ d ∧ k ≠ m ∧ k ≠ d' ∧ k ≠ m' ∧ ¬ T k := by
  have h1 := h.a.lt
  have h2 := h.b.lt
  have h3 := h.f.size
  exact ⟨by omega, by omega, by omega, by omega, by omega, fun hT => by have := (h.a.ns k hT).2.2; omega⟩
/-- x = append(x, 7) onto a row of one's own. -/
theorem app7 (w : World) (base n c : Nat) (ao : Option Addr) (xs : List Value) (hx : w.ownsRow base 5 1 (.slice ao n c) n xs) (hn : n ≤ 100000000) (hb : base ≤ w.heap.size) :
    ∃ ao' c' w', (Builtin.append_ #[29, 29] 29 #[.slice ao n c, .slice (some ⟨w.heap.size, 0, none⟩) 1 1]).run Try.prog (w.alloc (.cells #[.int .u8 7] 5)) = .ok (.slice ao' (n + 1) c') w' ∧ (∃ xs', w'.ownsRow base 5 1 (.slice ao' (n + 1) c') (n + 1) xs') ∧ Fr (fun k => (Value.slice ao n c).ownBlock = some k) w w' ∧ ∀ g, (Value.slice ao' (n + 1) c').ownBlock = some g → (Value.slice ao n c).ownBlock = some g ∨ w.heap.size ≤ g := by
  have hx1 : (w.alloc (.cells #[.int .u8 7] 5)).ownsRow base 5 1 (.slice ao n c) n xs := ownsRow_of_block hx (fun k hk => Below.heap_alloc _ _ _ (hx.lt k hk).2)
  obtain ⟨ao', c', w', hr, hown, hg, hat⟩ := run_app_sl _ 29 base n _ _ xs [7] hx1 (lit_srcW w [7] #[.int .u8 7] 1 rfl) (by simp; omega) (by simp; omega)
  refine ⟨ao', c', w', hr, ⟨_, hown⟩, ((box1 w _).mono (fun _ _ h => h.elim)).grown hg (fun k hk => .inl hk), fun g hg2 => ?_⟩
  rcases hat with e | e
  · rw [show (Value.slice ao' (n + 1) c').ownBlock = (Value.slice ao n c).ownBlock from e] at hg2; exact .inl hg2
  · rw [show (Value.slice ao' (n + 1) c').ownBlock = some (w.alloc (.cells #[.int .u8 7] 5)).heap.size from e] at hg2
    cases hg2
    exact .inr (by simp)
theorem ownb {ao : Option Addr} {n c k : Nat} (h : (Value.slice ao n c).ownBlock = some k) : ao.map (·.block) = some k := by
  cases ao with
  | none => cases h
  | some a => simpa [Value.ownBlock] using h
theorem bown {ao : Option Addr} {n c k : Nat} (h : ao.map (·.block) = some k) : (Value.slice ao n c).ownBlock = some k := by
  cases ao with
  | none => cases h
  | some a => simpa [Value.ownBlock] using h
/-- A row of bytes of one's own, whatever it holds. -/
def OwnI (w0 w : World) (base : Nat) (ao : Option Addr) (c n : Nat) : Prop := Fr (fun k => ao.map (·.block) = some k) w0 w ∧ ∃ xs, w.ownsRow base 5 1 (.slice ao n c) n xs ∧ ∀ j, j < n → ∃ z, xs[j]? = some (.int .u8 z)
theorem OwnI.at_ {w0 w : World} {base c n : Nat} {ao : Option Addr} (h : OwnI w0 w base ao c n) (j : Nat) (hj : j < n) : ∃ g z, ao = some ⟨g, 0, none⟩ ∧ w.cell? ⟨g, j, none⟩ = some (.int .u8 z) ∧ w.frozen? ⟨g, j, none⟩ = false := by
  obtain ⟨_, xs, hx, hz⟩ := h
  obtain ⟨z, e⟩ := hz j hj
  rcases hx.2 with ⟨_, e0⟩ | ⟨g', c', cur, e1, _, e3, _⟩
  · omega
  · simp only [Value.slice.injEq] at e1
    obtain ⟨rfl, -, rfl⟩ := e1
    exact ⟨g', z, rfl, (hx.cellAt j (by omega)).trans e, by simp [World.frozen?, e3]⟩
theorem OwnI.step {w0 w : World} {base g c n : Nat} (h : OwnI w0 w base (some ⟨g, 0, none⟩) c n) (j : Nat) (z : Int) : OwnI w0 (w.setCell ⟨g, j, none⟩ (.int .u8 z)) base (some ⟨g, 0, none⟩) c n := by
  obtain ⟨hf, xs, hx, hz⟩ := h
  have hl : xs.length = n := by simpa using hx.1
  refine ⟨hf.setCell (p := ⟨g, j, none⟩) (.inl rfl) _, xs.set j (.int .u8 z), (hx.stored j _).1, fun i hi => ?_⟩
  by_cases hij : j = i
  · subst hij
    exact ⟨z, by simp [hl, hi]⟩
  · obtain ⟨z', e⟩ := hz i hi
    exact ⟨z', by rw [List.getElem?_set_ne hij]; exact e⟩
theorem OwnI.drew {w0 w : World} {base c n : Nat} {ao : Option Addr} (h : OwnI w0 w base ao c n) : OwnI w0 w.drew base ao c n := ⟨h.1.drew, h.2⟩
def kq1 (l : List Nat) : List PK := [⟨0, 1, l, 0, false⟩]
def kq2 (l : List Nat) : List PK := [⟨0, 1, l, 0, false⟩, ⟨0, 1, l, 0, true⟩]
def kq3 (l : List Nat) : List PK := [⟨0, 1, l, 1, false⟩, ⟨0, 1, l, 0, true⟩]
theorem wl_kq2 (l : List Nat) : wl (kq2 l) = [(1, 0, 1, l), (2, 0, 1, l)] := rfl
/-- What Waiting tells of two packets with the same bytes. -/
structure W2 (w : World) (base g c : Nat) (x0 x1 : PV) (l : List Nat) : Prop where
  o : OwK w base (.slice (some ⟨g, 0, none⟩) 2 c) [(x0, l), (x1, l)]
  n0 : x0.n = 1
  cap : 2 ≤ c
theorem w2_of {w : World} {base c : Nat} {ao : Option Addr} {L : List (PV × List Nat)} {l : List Nat} (hO : OwK w base (.slice ao L.length c) L) (hL : L.map told = wl (kq2 l)) : ∃ g x0 x1, L.length = 2 ∧ ao = some ⟨g, 0, none⟩ ∧ W2 w base g c x0 x1 l := by
  rw [wl_kq2] at hL
  have hLl : L.length = 2 := by simpa using congrArg List.length hL
  obtain ⟨g, rfl⟩ := owk_at hO (by omega)
  obtain ⟨x0, x1, rfl⟩ : ∃ x0 x1, L = [x0, x1] := by
    match L, hLl with
    | [x0, x1], _ => exact ⟨x0, x1, rfl⟩
  simp only [List.map_cons, List.map_nil, List.cons.injEq, told, Prod.mk.injEq, and_true] at hL
  obtain ⟨⟨e0, _, _, eb0⟩, ⟨e1, _, _, eb1⟩⟩ := hL
  refine ⟨g, x0.1, x1.1, rfl, rfl, ?_, e0, ?_⟩
  · have e : [x0, x1] = [(x0.1, l), (x1.1, l)] := by rw [← eb0]; congr 2; rw [eb0, ← eb1]
    rw [e] at hO
    exact hO
  · rcases hO.row.2 with ⟨e, _⟩ | ⟨g', c', cur, e, _, _, hc, _⟩
    · cases e
    · simp only [Value.slice.injEq] at e; simp at hc; omega
theorem W2.fr {w w' : World} {base g c : Nat} {x0 x1 : PV} {l : List Nat} {S : Nat → Prop} (h : W2 w base g c x0 x1 l) (hf : Fr S w w') (hS : ∀ k, base ≤ k → ¬ S k) : W2 w' base g c x0 x1 l := ⟨h.o.fr hf hS, h.n0, h.cap⟩
theorem W2.cells {w : World} {base g c : Nat} {x0 x1 : PV} {l : List Nat} (h : W2 w base g c x0 x1 l) :
    w.cell? ⟨g, 0, none⟩ = some (.int .i64 1) ∧ w.cell? ⟨g, 3, none⟩ = some (.slice x0.a l.length x0.c) ∧ w.cell? ⟨g, 7, none⟩ = some (.slice x1.a l.length x1.c) ∧ w.frozen? ⟨g, 0, none⟩ = false ∧ w.ownsRow base 5 1 (.slice x0.a l.length x0.c) l.length (cellsOf l) ∧ w.ownsRow base 5 1 (.slice x1.a l.length x1.c) l.length (cellsOf l) ∧ (∀ k, x0.a.map (·.block) = some k → x1.a.map (·.block) ≠ some k ∧ k ≠ g) ∧ (∀ k, x1.a.map (·.block) = some k → k ≠ g) ∧ base ≤ g ∧ g < w.heap.size := by
  obtain ⟨a0, _, _, a3, az⟩ := owk_cell (L := [(x0, l), (x1, l)]) h.o 0 (x0, l) rfl
  obtain ⟨_, _, _, b3, _⟩ := owk_cell (L := [(x0, l), (x1, l)]) h.o 1 (x1, l) rfl
  obtain ⟨e0, r0⟩ := h.o.el 0 (x0, l) rfl
  obtain ⟨e1, r1⟩ := h.o.el 1 (x1, l) rfl
  unfold PV.sl at a3 b3 r0 r1
  have e0' : x0.l = l.length := e0
  have e1' : x1.l = l.length := e1
  simp only at a3 b3 r0 r1 a0
  rw [e0'] at a3 r0
  rw [e1'] at b3 r1
  rw [h.n0] at a0
  have hk0 : ∀ k, x0.a.map (·.block) = some k → x0.sl.ownBlock = some k := fun k hk => bown hk
  have hk1 : ∀ k, x1.a.map (·.block) = some k → x1.sl.ownBlock = some k := fun k hk => bown hk
  refine ⟨a0, a3, b3, az 0, r0, r1, fun k hk => ⟨fun e => h.o.ap 0 1 (x0, l) (x1, l) rfl rfl (by decide) k (hk0 k hk) (hk1 k e), fun e => ?_⟩, fun k hk e => ?_, (h.o.row.lt g rfl).1, (h.o.row.lt g rfl).2⟩
  · exact h.o.kinds (i := 0) (x := (x0, l)) rfl (hk0 k hk) (by rw [e]; rfl)
  · exact h.o.kinds (i := 1) (x := (x1, l)) rfl (hk1 k hk) (by rw [e]; rfl)
/-- What NetKept holds while it spoils what it was told: the nets, the second packet's bytes, the list's cells. -/
structure R7 (w w7 W : World) (d m : Nat) (ps : List PK) (sv : Nat → Option Addr × Nat) (T : Nat → Prop) (d' m' g : Nat) (x1 : PV) (l : List Nat) (n0 : Int) : Prop where
  k : KW w W d m ps sv T d' m'
  r : W.ownsRow w7.heap.size 5 1 (.slice x1.a l.length x1.c) l.length (cellsOf l)
  c0 : W.cell? ⟨g, 0, none⟩ = some (.int .i64 n0)
  c7 : W.cell? ⟨g, 7, none⟩ = some (.slice x1.a l.length x1.c)
  z0 : W.frozen? ⟨g, 0, none⟩ = false
  g7 : w7.heap.size ≤ g
  gx : ∀ k, x1.a.map (·.block) = some k → k ≠ g
theorem R7.fr {w w7 W W' : World} {d m d' m' g : Nat} {ps : List PK} {sv : Nat → Option Addr × Nat} {T S : Nat → Prop} {x1 : PV} {l : List Nat} {n0 : Int} (h : R7 w w7 W d m ps sv T d' m' g x1 l n0) (hf : Fr S W W') (hS : ∀ k, S k → (k ≠ g ∧ x1.a.map (·.block) ≠ some k) ∧ w.heap.size ≤ k ∧ k ≠ d ∧ k ≠ m ∧ k ≠ d' ∧ k ≠ m' ∧ ¬ T k) : R7 w w7 W' d m ps sv T d' m' g x1 l n0 :=
  ⟨h.k.fr hf (fun k hk => (hS k hk).2), ownsRow_of_block h.r (fun j hj => hf.block j (h.r.lt j hj).2 (fun e => (hS j e).1.2 (ownb hj))), (hf.cell (p := ⟨g, 0, none⟩) (lt_of_cell h.c0) (fun e => (hS g e).1.1 rfl)).trans h.c0, (hf.cell (p := ⟨g, 7, none⟩) (lt_of_cell h.c7) (fun e => (hS g e).1.1 rfl)).trans h.c7, (hf.frozen (p := ⟨g, 0, none⟩) (lt_of_cell h.c0) (fun e => (hS g e).1.1 rfl)).trans h.z0, h.g7, h.gx⟩
theorem R7.fr0 {w w7 W W' : World} {d m d' m' g : Nat} {ps : List PK} {sv : Nat → Option Addr × Nat} {T : Nat → Prop} {x1 : PV} {l : List Nat} {n0 : Int} (h : R7 w w7 W d m ps sv T d' m' g x1 l n0) (hf : Fr (fun _ => False) W W') : R7 w w7 W' d m ps sv T d' m' g x1 l n0 := h.fr hf (fun _ h => h.elim)
end Go.Proofs.Ytedmhpplhbaglaa
