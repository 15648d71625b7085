import Derived.Test.YtmdkibchdembjaaDoorAwl
import Derived.Deep.Cut
import Derived.Deep.CutRange
namespace Go.Proofs.YtmdkibchdembjaaDoor
open Go.RowKit

/-- append(nil, x...): a row of one's own. -/
theorem app_nil (w : World) (x : Value) (l : List Nat) (hx : Src w x l) (hl : l.length ≤ 140737488355328) :
    ∃ ao cap w', (Builtin.append_ #[25, 25] 25 #[.slice none 0 0, x]).run Tryd.prog w = .ok (.slice ao l.length cap) w' ∧ w'.ownsRow w.heap.size 5 1 (.slice ao l.length cap) l.length (cellsOf l) ∧ Fr (fun _ => False) w w' := by
  obtain ⟨ao, cap, w', hr, hown, hg, _⟩ := run_app_sl w 25 w.heap.size 0 (.slice none 0 0) x [] l (World.ownsRow_nil _ _ _ _) hx (by omega) (Nat.le_refl _)
  simp only [Nat.zero_add, List.nil_append] at hr hown
  exact ⟨ao, cap, w', hr, hown, (Fr.refl _ _).grown hg (fun k hk => by cases hk)⟩

/-- A row of bytes that may be written: for 'l[i] = l[i] + 1'. -/
structure Inc (w0 w : World) (ao : Option Addr) (n : Nat) : Prop where
  fr : Fr (fun k => ao.map (·.block) = some k) w0 w
  at_ : ∀ j, j < n → ∃ g c, ao = some ⟨g, 0, none⟩ ∧ w.cell? ⟨g, j, none⟩ = some (.int .u8 c) ∧ w.frozen? ⟨g, j, none⟩ = false

theorem inc_start {w : World} {base n cap : Nat} {ao : Option Addr} {l : List Nat} (h : w.ownsRow base 5 1 (.slice ao n cap) n (cellsOf l)) : Inc w w ao n := by
  refine ⟨Fr.refl _ _, fun j hj => ?_⟩
  rcases h.2 with ⟨_, e⟩ | ⟨g, c, cur, e1, _, e3, _, _, e4, e5⟩
  · omega
  · simp only [Value.slice.injEq] at e1
    obtain ⟨rfl, -, rfl⟩ := e1
    have hl : (cellsOf l).length = n := by have := h.1; simpa using this
    rw [cellsOf_length] at hl
    refine ⟨g, ((l[j]'(by omega) % 256 : Nat) : Int), rfl, ?_, ?_⟩
    · rw [h.cellAt j (by omega)]
      simp [cellsOf, B, show j < l.length by omega]
    · simp [World.frozen?, e3]

theorem Inc.step {w0 w : World} {g n : Nat} (h : Inc w0 w (some ⟨g, 0, none⟩) n) (j : Nat) (hj : j < n) (c : Int) : Inc w0 (w.setCell ⟨g, j, none⟩ (.int .u8 c)) (some ⟨g, 0, none⟩) n := by
  refine ⟨h.fr.setCell (p := ⟨g, j, none⟩) (.inl rfl) _, fun i hi => ?_⟩
  obtain ⟨g', c', e, h1, h2⟩ := h.at_ i hi
  obtain ⟨gj, cj, ej, hj1, _⟩ := h.at_ j hj
  simp only [Option.some.injEq, Addr.mk.injEq, and_true] at e ej
  subst e
  refine ⟨g, ?_⟩
  by_cases hij : i = j
  · subst hij
    exact ⟨c, rfl, World.cell?_setCell_same _ _ _ h1, by rw [World.frozen?_setCell]; exact h2⟩
  · exact ⟨c', rfl, by rw [World.cell?_setCell_other _ _ _ _ (by intro h; injection h with _ h2 _; exact hij h2.symm)]; exact h1, by rw [World.frozen?_setCell]; exact h2⟩

theorem Fr.absorb {S : Nat → Prop} {w a b : World} (h : Fr (fun _ => False) w a) (k : Fr S a b) (hS : ∀ i, S i → w.heap.size ≤ i) : Fr (fun _ => False) w b :=
  h.trans k (fun i hi hs => by have := hS i hs; omega)
theorem own_block {w : World} {base n c : Nat} {ao : Option Addr} {xs : List Value} (h : w.ownsRow base 5 1 (.slice ao n c) n xs) : ∀ k, ao.map (·.block) = some k → base ≤ k ∧ k < w.heap.size := fun k hk => by
  refine h.lt k ?_
  cases ao with
  | none => cases hk
  | some a => simpa [Value.ownBlock] using hk
theorem R.at_drew {w : World} {b : Nat} {F : Nat → Prop} {s : Rst} (h : R w b F s) : R w.drew b F s := h.frame ((Fr.refl (fun _ => False) _).drew) (fun _ _ h => h)
theorem val1 (l : List Nat) (k : Nat) (h : k < l.length) : val ((l.drop k).take 1) = l[k] % 256 := by
  rw [List.take_one, List.head?_drop, List.getElem?_eq_getElem h]
  simp [val]

/-- A row of bytes that is one's own, whatever it holds. -/
def Own8 (w0 w : World) (base g c n : Nat) : Prop := Fr (fun k => k = g) w0 w ∧ ∃ xs, w.ownsRow base 5 1 (.slice (some ⟨g, 0, none⟩) n c) n xs ∧ ∀ j, j < n → ∃ z, xs[j]? = some (.int .u8 z)
theorem cells8 {n : Nat} (l : List Nat) (h : l.length = n := by simp [be_length] <;> omega) : ∀ j, j < n → ∃ z, (cellsOf l)[j]? = some (.int .u8 z) := fun j hj => ⟨_, by simp [cellsOf, B, show j < l.length by omega]; rfl⟩
theorem Own8.at_ {w0 w : World} {base g c n : Nat} (h : Own8 w0 w base g c n) (j : Nat) (hj : j < n) : ∃ z, w.cell? ⟨g, j, none⟩ = some (.int .u8 z) ∧ w.frozen? ⟨g, j, none⟩ = false := by
  obtain ⟨_, xs, hx, hz⟩ := h
  obtain ⟨z, e⟩ := hz j hj
  refine ⟨z, (hx.cellAt j (by omega)).trans e, ?_⟩
  rcases hx.2 with ⟨e, _⟩ | ⟨g', c', cur, e1, _, e3, _⟩
  · cases e
  · simp only [Value.slice.injEq, Option.some.injEq, Addr.mk.injEq, and_true] at e1
    obtain ⟨rfl, -, -⟩ := e1
    simp [World.frozen?, e3]
theorem Own8.step {w0 w : World} {base g c n : Nat} (h : Own8 w0 w base g c n) (j : Nat) (z : Int) : Own8 w0 (w.setCell ⟨g, j, none⟩ (.int .u8 z)) base g c n := by
  obtain ⟨hf, xs, hx, hz⟩ := h
  have hl : xs.length = n := by simpa using hx.1
  refine ⟨hf.setCell (.inl rfl) _, xs.set j (.int .u8 z), (hx.stored j _).1, fun i hi => ?_⟩
  by_cases hij : j = i
  · subst hij
    exact ⟨z, by simp [hl, hi]⟩
  · obtain ⟨z', e⟩ := hz i hi
    exact ⟨z', by rw [List.getElem?_set_ne hij]; exact e⟩
/-- x = append(x, c) onto a row of one's own. -/
theorem app_one (w w0 : World) (g c n z base xg : Nat) (xs : List Value) (hx : w.ownsRow base 5 1 (.slice (some ⟨g, 0, none⟩) n c) n xs) (hg : g = xg ∨ w0.heap.size ≤ g) (hf : Fr (fun j => j = xg) w0 w) (hn : n + 1 ≤ 140737488355328) (hb : base ≤ w.heap.size) :
    ∃ g' c' w', (Builtin.append_ #[25, 25] 25 #[.slice (some ⟨g, 0, none⟩) n c, .slice (some ⟨w.heap.size, 0, none⟩) 1 1]).run Tryd.prog (w.alloc (.cells #[.int .u8 ((z % 256 : Nat) : Int)] 5)) = .ok (.slice (some ⟨g', 0, none⟩) (n + 1) c') w' ∧
      (∃ xs', w'.ownsRow base 5 1 (.slice (some ⟨g', 0, none⟩) (n + 1) c') (n + 1) xs') ∧ (g' = xg ∨ w0.heap.size ≤ g') ∧ Fr (fun j => j = xg) w0 w' := by
  have hx1 : (w.alloc (.cells #[.int .u8 ((z % 256 : Nat) : Int)] 5)).ownsRow base 5 1 (.slice (some ⟨g, 0, none⟩) n c) n xs := ownsRow_of_block hx (fun k hk => Below.heap_alloc _ _ _ (hx.lt k hk).2)
  obtain ⟨ao, c', w', hr, hown, hgrow, hat⟩ := run_app_sl _ 25 base n _ _ xs [z] hx1 (lit_src w [z] #[.int .u8 ((z % 256 : Nat) : Int)] 1 1 rfl rfl) hn (by simp; omega)
  obtain ⟨g', c'', e, _, _⟩ := hown.form (by simp)
  simp only [Value.slice.injEq] at e
  obtain ⟨rfl, -, rfl⟩ := e
  refine ⟨g', c', w', hr, ⟨_, hown⟩, ?_, (hf.alloc _).grown hgrow (fun k hk => ?_)⟩
  · rcases hat with e | e
    · simp [Value.ownBlock] at e
      exact e ▸ hg
    · simp [Value.ownBlock] at e
      have := hf.size
      exact .inr (by omega)
  · simp [Value.ownBlock] at hk
    exact hk ▸ hg
theorem cutz {w : World} {g c n z : Nat} {l : List Nat} (h : Src w (.slice (some ⟨g, 0, none⟩) (n + 5) c) (be 4 n ++ l ++ be 1 z)) (hn : l.length = n := by rfl) : Src w (.slice (some ⟨g, 0, none⟩) (n + 4) c) (be 4 n ++ l) := by
  rcases h with ⟨hx, _⟩ | ⟨g', o', c', hx, hc⟩ | ⟨a, c', hx, e⟩
  · cases hx
  · simp only [Value.slice.injEq, Option.some.injEq, Addr.mk.injEq, and_true] at hx
    obtain ⟨⟨rfl, rfl⟩, -, rfl⟩ := hx
    refine .inr (.inl ⟨g, 0, c, by simp [be_length]; omega, fun j v hv => ?_⟩)
    refine hc j v ?_
    rw [cellsOf_append, List.getElem?_append_left]
    · exact hv
    · exact (List.getElem?_eq_some_iff.1 hv).1
  · simp [be] at e
theorem val_be4 (l : List Nat) (h : l.length < 4294967296) : val (((be 4 l.length ++ l).drop 0).take 4) = l.length := by
  rw [List.drop_zero, List.take_append_of_le_length (by simp [be_length]), List.take_of_length_le (by simp [be_length])]
  simp [be, val, List.range_succ]
  omega
theorem cut4_eq (l : List Nat) (n : Nat) : ((be 4 n ++ l).drop 4).take l.length = l := by
  rw [List.drop_append_of_le_length (by simp [be_length]), List.drop_of_length_le (by simp [be_length])]
  simp
theorem own_le {w : World} {base n c : Nat} {ao : Option Addr} {xs : List Value} (h : w.ownsRow base 5 1 (.slice ao n c) n xs) : n ≤ c := by
  rcases h.2 with ⟨e, rfl⟩ | ⟨g, c', cur, e, _, _, hc, _⟩
  · exact Nat.zero_le _
  · simp only [Value.slice.injEq] at e
    omega
theorem same_self (l : List Nat) : sameB l l = true := by simp [sameB]
/-- x[4:] of what a writer has laid. -/
theorem cut4 {w : World} {g c : Nat} {l : List Nat} (hle : l.length + 4 ≤ c) (h : Src w (.slice (some ⟨g, 0, none⟩) (l.length + 4) c) (be 4 l.length ++ l)) : (c = 4 → Src w (.slice (some ⟨g, 0, none⟩) l.length 0) l) ∧ Src w (.slice (some ⟨g, 4, none⟩) l.length (c - 4)) l := by
  refine ⟨fun h4 => ?_, ?_⟩
  · have h0 : l = [] := List.eq_nil_of_length_eq_zero (by omega)
    subst h0
    exact .inr (.inr ⟨_, 0, rfl, rfl⟩)
  rcases h with ⟨hx, _⟩ | ⟨g', o', c', hx, hc⟩ | ⟨a, c', hx, e⟩
  · cases hx
  · simp only [Value.slice.injEq, Option.some.injEq, Addr.mk.injEq, and_true] at hx
    obtain ⟨⟨rfl, rfl⟩, -, rfl⟩ := hx
    refine .inr (.inl ⟨g, 4, c - 4, rfl, fun j v hv => ?_⟩)
    have := hc (4 + j) v (by rw [cellsOf_append, List.getElem?_append_right (by simp [cellsOf_length, be_length])]; simpa [cellsOf_length, be_length] using hv)
    simpa using this
  · simp [be] at e
set_option maxRecDepth 1000000 in
set_option maxHeartbeats 4000000 in
theorem kept_any (x0 x1 : Value) (Bs Ts : List Nat) (E : Nat → Addr) (w : World) (hg : Gl w E) (hw : 9 ≤ w.heap.size) (h0 : Src w x0 Bs) (h1 : Src w x1 Ts) (hB : Bs.length ≤ 1048576) (hT : Ts.length ≤ 1048576) :
    Calls Tryd.prog 7 #[x0, x1] w fun e w' => e = .returned (.bool true) ∧ Fr (fun _ => False) w w' := by
  obtain ⟨ao0, ac0, rfl⟩ := h0.form
  obtain ⟨ao1, ac1, rfl⟩ := h1.form
  have HG := hide (And.intro hg (And.intro h0 h1))
  clear hg h0 h1
  go_enter Tryd.func7, Tryd.ntmps7
  go_wp2_with fail
  refine (awake_any E w (unhide HG).1 hw).mono ?_
  rintro e w1 ⟨rfl, hf1⟩
  obtain ⟨lo, lc, w2, hr2, hown2, hf2⟩ := app_nil w1 (.slice ao0 Bs.length ac0) Bs ((unhide HG).2.1.fr hf1 (fun _ _ _ _ _ h => h)) (by omega)
  have HR2 := hide hr2
  have H2 := hide (And.intro hown2 (And.intro hf1 hf2))
  clear hr2 hown2 hf1 hf2
  go_wp2_with (at_builtin; refine wpList_app rfl (.tmp 26) (.tmp 27) 25 25 rfl _ _ _ rfl rfl (unhide HR2) ?_)
  clear HR2
  have hw2 : 9 ≤ w2.heap.size := Nat.le_trans hw (Nat.le_trans (unhide H2).2.1.size (unhide H2).2.2.size)
  refine (newReader_any _ Bs w2 hw2 (own_src (unhide H2).1) (by omega)).mono ?_
  rintro e w3 ⟨b3, F3, rfl, hR3, hf3, hl3⟩
  have H3 := hide (And.intro hR3 (And.intro hf3 hl3))
  clear hR3 hf3 hl3
  go_wp2_with fail
  go_loopw [7] (fun i wr => ∃ k : Nat, k ≤ Bs.length ∧ i = .int .i64 k ∧ Inc w3 wr lo Bs.length) (fun i _ => Bs.length - (intOf i).toNat)
  case atStart => exact ⟨0, Nat.zero_le _, rfl, inc_start (l := Bs) (ownsRow_of_block (unhide H2).1 (fun g hg => (unhide H3).2.1.block g ((unhide H2).1.lt g hg).2 (fun h => h)))⟩
  case round =>
    obtain ⟨k, hk, rfl, hinc⟩ := hrel
    have HI := hide hinc
    clear hinc
    by_cases hlt : k < Bs.length
    · obtain ⟨g, c, rfl, hc, hz⟩ := (unhide HI).at_ k hlt
      go_wp2
      go_roundw
      case rel => exact ⟨k + 1, by omega, by go_num, (unhide HI).step k hlt _⟩
      case measure => simp [intOf]; omega
    · rename World => w4
      have A2 : Fr (fun _ => False) w w2 := (unhide H2).2.1.trans (unhide H2).2.2 (fun _ _ h => h)
      have ob := own_block (unhide H2).1
      have A4 : Fr (fun _ => False) w w4 := (A2.trans (unhide H3).2.1 (fun _ _ h => h)).absorb (unhide HI).fr (fun i hi => Nat.le_trans (unhide H2).2.1.size (ob i hi).1)
      have R4 := (unhide H3).1.frame (unhide HI).fr (fun i hi h => by have h1 := (unhide H3).2.2 i hi; have h2 := (ob i h).2; omega)
      have B3 : w.heap.size ≤ b3 := Nat.le_trans A2.size ((unhide H3).2.2 b3 (unhide H3).1.fb)
      have N3 : ∀ i, F3 i → w.heap.size ≤ i := fun i hi => Nat.le_trans A2.size ((unhide H3).2.2 i hi)
      have HH := hide (And.intro A4 (And.intro R4 N3))
      clear A2 A4 R4 N3 ob HI H2 H3 hw2
      go_wp2_with fail
      go_loopw [8] (fun i wr => ∃ k part : Nat, k ≤ Bs.length ∧ i = .int .i64 k ∧ R wr b3 F3 ⟨ByteArray.empty, Bs, k, part, none⟩ ∧ Fr (fun _ => False) w wr) (fun i _ => Bs.length - (intOf i).toNat)
      case atStart => exact ⟨0, 0, Nat.zero_le _, rfl, (unhide HH).2.1, (unhide HH).1⟩
      case round =>
        obtain ⟨k2, part, hk2, rfl, hR, hA⟩ := hrel
        have HL := hide (And.intro hR hA)
        clear hR hA
        by_cases hlt2 : k2 < Bs.length
        · obtain ⟨g, o, rfl, hcell⟩ := src_at (unhide HG).2.1 k2 hlt2
          have hgl := lt_of_cell hcell
          have hc1 := ((unhide HL).2.cell hgl (fun h => h)).trans hcell
          have HC := hide hcell
          clear hcell
          go_wp2_with fail
          go_region_with (go_at_call 21; refine (rU8_ok b3 F3 _ E _ (((unhide HG).1.fr0 (unhide HL).2).drew) (unhide HL).1.at_drew rfl (by show 1 + k2 ≤ Bs.length; omega)).mono ?_; rintro e w5 ⟨rfl, hR5, hf5⟩; have hA5 : Fr (fun _ => False) w w5 := (unhide HL).2.drew.absorb hf5 (fun i hi => by have h' : i = b3 := hi; omega); have hc5 := (hA5.cell hgl (fun h => h)).trans (unhide HC); have H5 := hide (And.intro hR5 hA5); clear hR5 hf5 hA5; rw [show val (List.take 1 (List.drop k2 Bs)) = Bs[k2] % 256 from val1 Bs k2 hlt2])
          all_goals
            go_wp2_with fail
            go_roundw
            case rel => exact ⟨k2 + 1, k2, by omega, by go_num, (unhide H5).1, (unhide H5).2⟩
            case measure => simp [intOf]; omega
        · rename World => w6
          have A6 := hide (unhide HL).2
          clear HL HH
          go_wp2_with fail
          refine (newWriter_any w6 (Nat.le_trans hw (unhide A6).size)).mono ?_
          rintro e w7 ⟨rfl, hW7, hf7⟩
          have A7 := (unhide A6).trans hf7 (fun _ _ h => h)
          have hl7 := hW7.lt _ hW7.fb
          obtain ⟨mo, mc, w8, hr8, hown8, hf8⟩ := app_nil w7 (.slice ao1 Ts.length ac1) Ts ((unhide HG).2.2.fr A7 (fun _ _ _ _ _ h => h)) (by omega)
          have HR8 := hide hr8
          have hW8 := hW7.frame hf8 (fun _ _ h => h)
          have A8 := A7.trans hf8 (fun _ _ h => h)
          have H8 := hide (And.intro hown8 (And.intro hW8 A8))
          clear hr8 hown8 hf8 hW8 A8 hW7 hf7 A7
          go_wp2_with (at_builtin; refine wpList_app rfl (.tmp 59) (.tmp 60) 25 25 rfl _ _ _ rfl rfl (unhide HR8) ?_)
          clear HR8
          have om := own_block (unhide H8).1
          refine (wBytes_any w6.heap.size (.slice mo Ts.length mc) Ts (Ts.length : Int) _ _ E w8 ((unhide HG).1.fr0 (unhide H8).2.2) (unhide H8).2.1 (own_src (unhide H8).1) (fun g o m c e hk => by simp only [Value.slice.injEq] at e; have h1 := (om g (by rw [e.1]; rfl)).1; have h2 : g = w6.heap.size := hk; omega) (by omega) (by simp; omega)).mono ?_
          rintro e w9 ⟨rfl, F9, hW9, hc9⟩
          rw [if_pos ⟨Int.le_refl _, by omega⟩, Wst.putB, if_pos rfl] at hW9
          simp only [List.nil_append] at hW9
          have A9 := (unhide H8).2.2.absorb hc9.fr (fun i hi => by have h' : i = w6.heap.size := hi; have := (unhide A6).size; omega)
          have own9 : w9.ownsRow w7.heap.size 5 1 (.slice mo Ts.length mc) Ts.length (cellsOf Ts) := ownsRow_of_block (unhide H8).1 (fun g hg => hc9.fr.block g ((unhide H8).1.lt g hg).2 (fun hk => by have h1 := ((unhide H8).1.lt g hg).1; have h2 : g = w6.heap.size := hk; omega))
          have H9 := hide (And.intro hW9 (And.intro hc9 (And.intro A9 own9)))
          clear hW9 hc9 A9 own9
          go_wp2_with fail
          go_loopw [11] (fun i wr => ∃ k : Nat, k ≤ Ts.length ∧ i = .int .i64 k ∧ Inc w9 wr mo Ts.length) (fun i _ => Ts.length - (intOf i).toNat)
          case atStart => exact ⟨0, Nat.zero_le _, rfl, inc_start (l := Ts) (unhide H9).2.2.2⟩
          case round =>
            obtain ⟨k3, hk3, rfl, hinc⟩ := hrel
            have HI := hide hinc
            clear hinc
            by_cases hlt3 : k3 < Ts.length
            · obtain ⟨g, c, rfl, hc, hz⟩ := (unhide HI).at_ k3 hlt3
              go_wp2
              go_roundw
              case rel => exact ⟨k3 + 1, by omega, by go_num, (unhide HI).step k3 hlt3 _⟩
              case measure => simp [intOf]; omega
            · rename World => w10
              have A10 := (unhide H9).2.2.1.absorb (unhide HI).fr (fun i hi => by have h1 := (om i hi).1; have h2 := (unhide A6).size; omega)
              have W10 := (unhide H9).1.frame (unhide HI).fr (fun i hi h => by
                have h1 := om i h
                rcases (unhide H9).2.1.new i hi with hx | hx
                · have h2 : i = w6.heap.size := hx
                  omega
                · omega)
              have H10 := hide (And.intro A10 W10)
              have HF9 : Hid (∀ i, F9 i → w.heap.size ≤ i) := hide (fun i hi => by
                have h0 := (unhide A6).size
                have h8 := (unhide H8).2.2.size
                rcases (unhide H9).2.1.new i hi with hx | hx
                · have h2 : i = w6.heap.size := hx
                  omega
                · omega)
              clear A10 W10 HI H9 om H8
              go_wp2_with fail
              refine (wDone_ok _ _ _ w10 (unhide H10).2 rfl (by simp [be_length]; omega)).mono ?_
              rintro e w11 ⟨x, rfl, hx, hf11⟩
              have W11 := (unhide H10).2.frame hf11 (fun _ _ h => h)
              have hlen : (be 4 Ts.length ++ Ts).length = Ts.length + 4 := by simp [be_length]; omega
              simp only at hx
              rw [hlen] at hx
              obtain ⟨xg, xc, rfl, hxg1, hxg2⟩ := hx.form (by omega)
              have H11 := hide (And.intro hx (And.intro hf11 W11))
              clear hx hf11 W11
              go_wp2_with fail
              refine (wDone_ok _ _ _ w11 (unhide H11).2.2 rfl (by simp [be_length]; omega)).mono ?_
              rintro e w12 ⟨y, rfl, hy, hf12⟩
              have W12 := (unhide H11).2.2.frame hf12 (fun _ _ h => h)
              simp only at hy
              rw [hlen] at hy
              obtain ⟨yg, yc, rfl, hyg1, hyg2⟩ := hy.form (by omega)
              have H12 := hide (And.intro hy (And.intro hf12 W12))
              clear hy hf12 W12
              have sx := own_src (l := be 4 Ts.length ++ Ts) (by rw [hlen]; exact (unhide H11).1)
              have sx12 := sx.fr (unhide H12).2.1 (fun _ _ _ _ _ h => h)
              have sy12 := own_src (l := be 4 Ts.length ++ Ts) (by rw [hlen]; exact (unhide H12).1)
              have A12 := ((unhide H10).1.trans (unhide H11).2.1 (fun _ _ h => h)).trans (unhide H12).2.1 (fun _ _ h => h)
              have st12 := (unhide HG).2.2.fr A12 (fun _ _ _ _ _ h => h)
              obtain ⟨ct1, ct2⟩ := cut4 (own_le (unhide H11).1) sx12
              have HS := hide (And.intro sx12 (And.intro sy12 (And.intro st12 (And.intro ct1 ct2))))
              have HA12 := hide A12
              clear sx sx12 sy12 A12 st12 ct1 ct2
              go_upto_region 25 with fail
              go_cut [117] from 91 to 117 (fun c wc => c = .bool false ∧ ∃ q, wc = w12.drewN q)
              case first =>
                go_wp2_with fail
                · subst h
                  refine (same_any _ _ Ts Ts w12 ((unhide HS).2.2.2.1 rfl) (unhide HS).2.2.1 (by omega)).mono ?_
                  rintro e w13 ⟨rfl, q, rfl⟩
                  rw [same_self]
                  go_wp2_with fail
                  refine (same_any _ _ (be 4 Ts.length ++ Ts) (be 4 Ts.length ++ Ts) (w12.drewN q) ((unhide HS).1.fr ((Fr.refl (fun _ => False) _).drewN q) (fun _ _ _ _ _ h => h)) ((unhide HS).2.1.fr ((Fr.refl (fun _ => False) _).drewN q) (fun _ _ _ _ _ h => h)) (by omega)).mono ?_
                  rintro e w14 ⟨rfl, q2, rfl⟩
                  rw [same_self]
                  go_wp2_with fail
                  go_meet
                  case rel => exact ⟨rfl, _, rfl⟩
                · refine (same_any _ _ Ts Ts w12 (unhide HS).2.2.2.2 (unhide HS).2.2.1 (by omega)).mono ?_
                  rintro e w13 ⟨rfl, q, rfl⟩
                  rw [same_self]
                  go_wp2_with fail
                  refine (same_any _ _ (be 4 Ts.length ++ Ts) (be 4 Ts.length ++ Ts) (w12.drewN q) ((unhide HS).1.fr ((Fr.refl (fun _ => False) _).drewN q) (fun _ _ _ _ _ h => h)) ((unhide HS).2.1.fr ((Fr.refl (fun _ => False) _).drewN q) (fun _ _ _ _ _ h => h)) (by omega)).mono ?_
                  rintro e w14 ⟨rfl, q2, rfl⟩
                  rw [same_self]
                  go_wp2_with fail
                  go_meet
                  case rel => exact ⟨rfl, _, rfl⟩
              case rest =>
                obtain ⟨rfl, q, rfl⟩ := hcut
                have A13 := (unhide HA12).drewN q
                have W13 := (unhide H12).2.2.frame ((Fr.refl (fun _ => False) _).drewN q) (fun _ _ h => h)
                have ox13 : (w12.drewN q).ownsRow w10.heap.size 5 1 (.slice (some ⟨xg, 0, none⟩) (Ts.length + 4) xc) (Ts.length + 4) (cellsOf (be 4 Ts.length ++ Ts)) := ownsRow_of_block (unhide H11).1 (fun g hg => (unhide H12).2.1.block g ((unhide H11).1.lt g hg).2 (fun h => h))
                have sy13 := (unhide HS).2.1.fr ((Fr.refl (fun _ => False) _).drewN q) (fun _ _ _ _ _ h => h)
                have yl := own_le (unhide H12).1
                have hs12 := (unhide H12).2.1.size
                have hs11 := (unhide H11).2.1.size
                have hw10 := (unhide H10).1.size
                have nF : ∀ i, F9 i → i < w10.heap.size := fun i hi => (unhide H10).2.lt i hi
                have NF9 := hide nF
                have NW9 : Hid (∀ i, F9 i → w.heap.size ≤ i) := unhide HF9
                have H13 := hide (And.intro A13 (And.intro W13 (And.intro ox13 (And.intro sy13 (And.intro yl nF)))))
                clear A13 W13 ox13 sy13 yl nF HS HA12 H12 H11 H10
                generalize hw13 : w12.drewN q = w13 at *
                have hsz : w12.heap.size = w13.heap.size := by rw [← hw13]; rfl
                clear hw13
                go_wp2_with fail
                go_loopw [16] (fun i wr => ∃ k : Nat, k ≤ Ts.length + 4 ∧ i = .int .i64 k ∧ Own8 w13 wr w10.heap.size xg xc (Ts.length + 4)) (fun i _ => (Ts.length + 4) - (intOf i).toNat)
                case atStart => exact ⟨0, Nat.zero_le _, rfl, Fr.refl _ _, _, (unhide H13).2.2.1, cells8 _⟩
                case round =>
                  obtain ⟨k4, hk4, rfl, hinc⟩ := hrel
                  have HI := hide hinc
                  clear hinc
                  by_cases hlt4 : k4 < Ts.length + 4
                  · obtain ⟨c, hc, hz⟩ := (unhide HI).at_ k4 hlt4
                    go_wp2
                    go_roundw
                    case rel => exact ⟨k4 + 1, by omega, by go_num, (unhide HI).step k4 _⟩
                    case measure => simp [intOf]; omega
                  · rename World => w14
                    have A14 := (unhide H13).1.absorb (unhide HI).1 (fun i hi => by have h' : i = xg := hi; omega)
                    have W14 := (unhide H13).2.1.frame (unhide HI).1 (fun i hi h => by have h' : i = xg := h; have := (unhide H13).2.2.2.2.2 i hi; omega)
                    have sy14 := (unhide H13).2.2.2.1.fr (unhide HI).1 (fun g o m c e h => by have h' : g = xg := h; simp only [Value.slice.injEq, Option.some.injEq, Addr.mk.injEq] at e; omega)
                    have ho14 := (unhide HI).2
                    have H14 := hide (And.intro A14 (And.intro W14 (And.intro sy14 ho14)))
                    have s14 := (unhide HI).1.size
                    have yl := hide (unhide H13).2.2.2.2.1
                    clear A14 W14 sy14 ho14 HI H13
                    go_wp2_with fail
                    go_loopw [12, 17] (fun x i wr => ∃ k g c : Nat, k ≤ 5 ∧ i = .int .i64 k ∧ x = .slice (some ⟨g, 0, none⟩) (Ts.length + 4 + k) c ∧ (g = xg ∨ w14.heap.size ≤ g) ∧ Fr (fun j => j = xg) w14 wr ∧ ∃ xs, wr.ownsRow w10.heap.size 5 1 (.slice (some ⟨g, 0, none⟩) (Ts.length + 4 + k) c) (Ts.length + 4 + k) xs) (fun _ i _ => 5 - (intOf i).toNat)
                    case atStart =>
                      obtain ⟨xs, hxs, _⟩ := (unhide H14).2.2.2
                      exact ⟨0, xg, xc, by decide, rfl, rfl, .inl rfl, Fr.refl _ _, xs, hxs⟩
                    case round =>
                      obtain ⟨k5, g5, c5, hk5, rfl, rfl, hg5, hf5, xs5, hx5⟩ := hrel
                      have H5 := hide (And.intro hg5 (And.intro hf5 hx5))
                      clear hg5 hf5 hx5
                      by_cases hlt5 : k5 < 5
                      · rename World => wq
                        obtain ⟨hg5, hf5, hx5⟩ := unhide H5
                        obtain ⟨g6, c6, w6', hr6, hx6, hg6, hf6⟩ := app_one wq w14 g5 c5 (Ts.length + 4 + k5) 9 w10.heap.size xg xs5 hx5 hg5 hf5 (by omega) (by have := hf5.size; omega)
                        have HR6 := hide hr6
                        have H6 := hide (And.intro hg6 (And.intro hf6 hx6))
                        clear hr6 hg6 hf6 hx6 hg5 hf5 hx5
                        go_wp2_with (at_builtin; refine wpList_app rfl (.tmp 136) (.tmp 137) 25 25 rfl _ _ _ rfl rfl (unhide HR6) ?_)
                        go_roundw
                        case rel => exact ⟨k5 + 1, g6, c6, by omega, by go_num, rfl, (unhide H6).1, (unhide H6).2.1, (unhide H6).2.2⟩
                        case measure => simp [intOf]; omega
                      · rename World => w15
                        obtain ⟨hg5, hf5, hx5⟩ := unhide H5
                        have xw : w.heap.size ≤ xg := by omega
                        have A15 := (unhide H14).1.absorb hf5 (fun i hi => by have h' : i = xg := hi; omega)
                        have nF : ∀ i, F9 i → i < w10.heap.size ∨ w10.heap.size ≤ i := fun i _ => Nat.lt_or_ge i _
                        have W15 := (unhide H14).2.1.frame hf5 (fun i hi h => by have h' : i = xg := h; have := unhide NF9 i hi; omega)
                        have sy15 := (unhide H14).2.2.1.fr hf5 (fun g o m c e h => by have h' : g = xg := h; simp only [Value.slice.injEq, Option.some.injEq, Addr.mk.injEq] at e; omega)
                        have H15 := hide (And.intro A15 (And.intro W15 sy15))
                        have s15 := hf5.size
                        clear A15 W15 sy15 hg5 hf5 hx5 H5 H14 nF
                        go_wp2_with fail
                        refine (wU8_any w6.heap.size 77 F9 _ w15 (by decide) (unhide H15).2.1 (by simp [be_length]; omega)).mono ?_
                        rintro e w16 ⟨rfl, F16, hW16, hc16⟩
                        rw [if_pos rfl] at hW16
                        simp only at hW16
                        have A16 := (unhide H15).1.absorb hc16.fr (fun i hi => unhide NW9 i hi)
                        have sy16 := (unhide H15).2.2.fr hc16.fr (fun g o m c e h => by have := unhide NF9 g h; simp only [Value.slice.injEq, Option.some.injEq, Addr.mk.injEq] at e; omega)
                        have H16 := hide (And.intro A16 (And.intro hW16 sy16))
                        have s16 := hc16.fr.size
                        clear A16 hW16 sy16 hc16 H15
                        go_wp2_with fail
                        refine (wDone_ok _ _ _ w16 (unhide H16).2.1 rfl (by simp [be_length]; omega)).mono ?_
                        rintro e w17 ⟨z, rfl, hz, hf17⟩
                        have hlenz : (be 4 Ts.length ++ Ts ++ be 1 77).length = Ts.length + 5 := by simp [be_length]; omega
                        simp only at hz
                        rw [hlenz] at hz
                        obtain ⟨zg, zc, rfl, hzg1, hzg2⟩ := hz.form (by omega)
                        have zl := own_le hz
                        have sz17 := own_src (l := be 4 Ts.length ++ Ts ++ be 1 77) (by rw [hlenz]; exact hz)
                        have szc : Src w17 (.slice (some ⟨zg, 0, none⟩) (Ts.length + 4) zc) (be 4 Ts.length ++ Ts) := cutz sz17
                        have A17 := (unhide H16).1.trans hf17 (fun _ _ h => h)
                        have sy17 := (unhide H16).2.2.fr hf17 (fun _ _ _ _ _ h => h)
                        have st17 := (unhide HG).2.2.fr A17 (fun _ _ _ _ _ h => h)
                        obtain ⟨ct1, ct2⟩ := cut4 (unhide yl) sy17
                        have s17 := hf17.size
                        have H17 := hide (And.intro A17 (And.intro szc (And.intro sy17 (And.intro st17 (And.intro ct1 ct2)))))
                        clear hz sz17 szc A17 sy17 st17 ct1 ct2 hf17 H16
                        go_upto_region 37 with fail
                        go_cut [171] from 146 to 171 (fun c wc => c = .bool false ∧ ∃ q, wc = w17.drewN q)
                        case first =>
                          go_wp2_with fail
                          refine (same_any _ _ (be 4 Ts.length ++ Ts) (be 4 Ts.length ++ Ts) w17 (unhide H17).2.1 (unhide H17).2.2.1 (by omega)).mono ?_
                          rintro e wa ⟨rfl, q, rfl⟩
                          rw [same_self]
                          go_wp2_with fail
                          · subst h
                            refine (same_any _ _ Ts Ts (w17.drewN q) (((unhide H17).2.2.2.2.1 rfl).fr ((Fr.refl (fun _ => False) _).drewN q) (fun _ _ _ _ _ h => h)) ((unhide H17).2.2.2.1.fr ((Fr.refl (fun _ => False) _).drewN q) (fun _ _ _ _ _ h => h)) (by omega)).mono ?_
                            rintro e wb ⟨rfl, q2, rfl⟩
                            rw [same_self]
                            go_wp2_with fail
                            go_meet
                            case rel => exact ⟨rfl, _, rfl⟩
                          · refine (same_any _ _ Ts Ts (w17.drewN q) ((unhide H17).2.2.2.2.2.fr ((Fr.refl (fun _ => False) _).drewN q) (fun _ _ _ _ _ h => h)) ((unhide H17).2.2.2.1.fr ((Fr.refl (fun _ => False) _).drewN q) (fun _ _ _ _ _ h => h)) (by omega)).mono ?_
                            rintro e wb ⟨rfl, q2, rfl⟩
                            rw [same_self]
                            go_wp2_with fail
                            go_meet
                            case rel => exact ⟨rfl, _, rfl⟩
                        case rest =>
                          obtain ⟨rfl, q, rfl⟩ := hcut
                          have A18 := (unhide H17).1.drewN q
                          have sy18 := (unhide H17).2.2.1.fr ((Fr.refl (fun _ => False) _).drewN q) (fun _ _ _ _ _ h => h)
                          have hsz2 : w17.heap.size = (w17.drewN q).heap.size := rfl
                          generalize hw18 : w17.drewN q = w18 at *
                          clear hw18
                          have H18 := hide (And.intro A18 sy18)
                          clear A18 sy18 H17
                          go_wp2_with fail
                          have hw18 := (unhide H18).1.size
                          refine (newReader_any _ (be 4 Ts.length ++ Ts) w18 (by omega) (unhide H18).2 (by omega)).mono ?_
                          rintro e w19 ⟨b19, F19, rfl, hR19, hf19, hl19⟩
                          have A19 := (unhide H18).1.trans hf19 (fun _ _ h => h)
                          have sy19 := (unhide H18).2.fr hf19 (fun _ _ _ _ _ h => h)
                          have H19 := hide (And.intro A19 (And.intro sy19 (And.intro hR19 hl19)))
                          have s19 := hf19.size
                          clear A19 sy19 hR19 hl19 hf19
                          have hv4 := hide (val_be4 Ts (by omega))
                          go_wp2_with fail
                          have hb19 := (unhide H19).2.2.2 b19 (unhide H19).2.2.1.fb
                          refine (rBytes_ok b19 Ts.length (Ts.length : Int) F19 _ E w19 (by omega) ((unhide HG).1.fr0 (unhide H19).1) (unhide H19).2.2.1 rfl (unhide hv4) (by simp [be_length]) (Int.le_refl _) (by simp [be_length]; omega) (by simp [be_length]; omega)).mono ?_
                          rintro e w20 ⟨co, cc, rfl, hown20, -, hf20⟩
                          rw [show (List.take Ts.length (List.drop (0 + 4) (be 4 Ts.length ++ Ts))) = Ts from cut4_eq Ts Ts.length] at hown20
                          have A20 := (unhide H19).1.absorb hf20 (fun i hi => by have h' : i = b19 := hi; omega)
                          have sy20 := (unhide H19).2.1.fr hf20 (fun g o m c e h => by have h' : g = b19 := h; simp only [Value.slice.injEq, Option.some.injEq, Addr.mk.injEq] at e; omega)
                          have st20 := (unhide HG).2.2.fr A20 (fun _ _ _ _ _ h => h)
                          have H20 := hide (And.intro A20 (And.intro sy20 (And.intro hown20 st20)))
                          have s20 := hf20.size
                          clear A20 sy20 hown20 st20 hf20 H19 H18
                          go_wp2_with fail
                          refine (same_any _ _ Ts Ts w20 (own_src (unhide H20).2.2.1) (unhide H20).2.2.2 (by omega)).mono ?_
                          rintro e w21 ⟨rfl, q3, rfl⟩
                          rw [same_self]
                          have A21 := (unhide H20).1.drewN q3
                          have sy21 := (unhide H20).2.1.fr ((Fr.refl (fun _ => False) _).drewN q3) (fun _ _ _ _ _ h => h)
                          have own21 : (w20.drewN q3).ownsRow w19.heap.size 5 1 (.slice co Ts.length cc) Ts.length (cellsOf Ts) := (unhide H20).2.2.1
                          have hsz3 : w20.heap.size = (w20.drewN q3).heap.size := rfl
                          generalize hw21 : w20.drewN q3 = w21 at *
                          clear hw21
                          have H21 := hide (And.intro A21 (And.intro sy21 own21))
                          clear A21 sy21 own21 H20
                          go_wp2_with fail
                          have hw21 := (unhide H21).1.size
                          refine (newReader_any _ (be 4 Ts.length ++ Ts) w21 (by omega) (unhide H21).2.1 (by omega)).mono ?_
                          rintro e w22 ⟨b22, F22, rfl, hR22, hf22, hl22⟩
                          have A22 := (unhide H21).1.trans hf22 (fun _ _ h => h)
                          have sy22 := (unhide H21).2.1.fr hf22 (fun _ _ _ _ _ h => h)
                          have own22 : w22.ownsRow w19.heap.size 5 1 (.slice co Ts.length cc) Ts.length (cellsOf Ts) := ownsRow_of_block (unhide H21).2.2 (fun g hg => hf22.block g ((unhide H21).2.2.lt g hg).2 (fun h => h))
                          have oc := own_block (unhide H21).2.2
                          have H22 := hide (And.intro A22 (And.intro sy22 (And.intro own22 (And.intro hR22 (And.intro hl22 oc)))))
                          have s22 := hf22.size
                          clear A22 sy22 own22 hR22 hl22 hf22 oc
                          go_wp2_with fail
                          have hb22 := (unhide H22).2.2.2.2.1 b22 (unhide H22).2.2.2.1.fb
                          refine (rBytes_ok b22 Ts.length (Ts.length : Int) F22 _ E w22 (by omega) ((unhide HG).1.fr0 (unhide H22).1) (unhide H22).2.2.2.1 rfl (unhide hv4) (by simp [be_length]) (Int.le_refl _) (by simp [be_length]; omega) (by simp [be_length]; omega)).mono ?_
                          rintro e w23 ⟨dO, dc, rfl, hown23, -, hf23⟩
                          rw [show (List.take Ts.length (List.drop (0 + 4) (be 4 Ts.length ++ Ts))) = Ts from cut4_eq Ts Ts.length] at hown23
                          have A23 := (unhide H22).1.absorb hf23 (fun i hi => by have h' : i = b22 := hi; omega)
                          have sy23 := (unhide H22).2.1.fr hf23 (fun g o m c e h => by have h' : g = b22 := h; simp only [Value.slice.injEq, Option.some.injEq, Addr.mk.injEq] at e; omega)
                          have oc := (unhide H22).2.2.2.2.2
                          have own23 : w23.ownsRow w19.heap.size 5 1 (.slice co Ts.length cc) Ts.length (cellsOf Ts) := ownsRow_of_block (unhide H22).2.2.1 (fun g hg => hf23.block g ((unhide H22).2.2.1.lt g hg).2 (fun h => by have h' : g = b22 := h; have := ((unhide H21).2.2.lt g hg).2; omega))
                          have od := own_block hown23
                          have H23 := hide (And.intro A23 (And.intro sy23 (And.intro own23 (And.intro (own_src hown23) (And.intro oc od)))))
                          have s23 := hf23.size
                          clear A23 sy23 own23 hown23 oc od hf23 H22 H21
                          go_wp2_with fail
                          go_loopw [23] (fun i wr => ∃ k : Nat, k ≤ Ts.length ∧ i = .int .i64 k ∧ Inc w23 wr co Ts.length) (fun i _ => Ts.length - (intOf i).toNat)
                          case atStart => exact ⟨0, Nat.zero_le _, rfl, inc_start (l := Ts) (unhide H23).2.2.1⟩
                          case round =>
                            obtain ⟨k6, hk6, rfl, hinc⟩ := hrel
                            have HI := hide hinc
                            clear hinc
                            by_cases hlt6 : k6 < Ts.length
                            · obtain ⟨g, c, rfl, hc, hz⟩ := (unhide HI).at_ k6 hlt6
                              go_wp2
                              go_roundw
                              case rel => exact ⟨k6 + 1, by omega, by go_num, (unhide HI).step k6 hlt6 _⟩
                              case measure => simp [intOf]; omega
                            · rename World => w24
                              have oc := (unhide H23).2.2.2.2.1
                              have od := (unhide H23).2.2.2.2.2
                              have A24 := (unhide H23).1.absorb (unhide HI).fr (fun i hi => by have := (oc i hi).1; omega)
                              have sy24 := (unhide H23).2.1.fr (unhide HI).fr (fun g o m c e h => by have := (oc g h).1; simp only [Value.slice.injEq, Option.some.injEq, Addr.mk.injEq] at e; omega)
                              have sd24 := (unhide H23).2.2.2.1.fr (unhide HI).fr (fun g o m c e h => by have h1 := (oc g h).2; simp only [Value.slice.injEq] at e; have h2 := (od g (by rw [e.1]; rfl)).1; omega)
                              have st24 := (unhide HG).2.2.fr A24 (fun _ _ _ _ _ h => h)
                              obtain ⟨ct1, ct2⟩ := cut4 (unhide yl) sy24
                              have H24 := hide (And.intro A24 (And.intro sd24 (And.intro st24 (And.intro ct1 ct2))))
                              clear oc od A24 sy24 sd24 st24 ct1 ct2 HI H23
                              go_wp2_with fail
                              refine (same_any _ _ Ts Ts w24 (unhide H24).2.1 (unhide H24).2.2.1 (by omega)).mono ?_
                              rintro e wa ⟨rfl, q4, rfl⟩
                              rw [same_self]
                              go_wp2_with fail
                              · subst h
                                refine (same_any _ _ Ts Ts (w24.drewN q4) (((unhide H24).2.2.2.1 rfl).fr ((Fr.refl (fun _ => False) _).drewN q4) (fun _ _ _ _ _ h => h)) ((unhide H24).2.2.1.fr ((Fr.refl (fun _ => False) _).drewN q4) (fun _ _ _ _ _ h => h)) (by omega)).mono ?_
                                rintro e wb ⟨rfl, q5, rfl⟩
                                rw [same_self]
                                go_wp2_with fail
                                go_ret
                                exact ⟨rfl, (unhide H24).1.drewN _⟩
                              · refine (same_any _ _ Ts Ts (w24.drewN q4) ((unhide H24).2.2.2.2.fr ((Fr.refl (fun _ => False) _).drewN q4) (fun _ _ _ _ _ h => h)) ((unhide H24).2.2.1.fr ((Fr.refl (fun _ => False) _).drewN q4) (fun _ _ _ _ _ h => h)) (by omega)).mono ?_
                                rintro e wb ⟨rfl, q5, rfl⟩
                                rw [same_self]
                                go_wp2_with fail
                                go_ret
                                exact ⟨rfl, (unhide H24).1.drewN _⟩
end Go.Proofs.YtmdkibchdembjaaDoor
