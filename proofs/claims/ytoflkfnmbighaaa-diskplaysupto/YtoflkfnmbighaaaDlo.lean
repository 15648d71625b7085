import Derived.Test.YtoflkfnmbighaaaDln
namespace Go.Proofs.Ytoflkfnmbighaaa
open Go.RowKit Go.ChangeShapes Go.WideShapes Go.Maps Go.Sort

set_option maxRecDepth 100000 in
/-- Create of a name that is there. -/
theorem create_twice (d m : Nat) (s : DM) (q : DW) (O : Nat → Prop) (name : ByteArray) (w : World) (h : DkAt w d m s q O) (ho : s.off = false) (hn0 : 1 ≤ name.size) (hn : name.size ≤ 64) (hh : Maps.has s.D (.string (nm name)) = true) :
    Calls Try.prog 9 #[.pointer (some ⟨d, 0, none⟩), .string name] w fun e w' => e = .returned (.int .i64 1) ∧ Fr (fun _ => False) w w' := by
  have hnm : name.size ≤ maxLen := by simp only [maxLen]; omega
  obtain ⟨c0, c1, c2, c3, c4, c5, c6, c7, fz⟩ := h.cells
  rw [ho] at c4
  clear c0 c2 c3 c5 c6 c7 fz
  obtain ⟨v, ps, hr, hv⟩ := h.map.lookup Try.sK (t := 46) Try.underlying46 (Try.zeroF w) Rp_nil (key_nm name hnm)
  rw [(h.at_ _ hh).1] at hv
  rcases Rp_inv hv with ⟨_, hb⟩ | ⟨b, rfl, hb⟩
  · cases hb
  · clear h hv hb hh ho
    go_enter Try.func9, Try.ntmps9
    go_wp2
    go_ret
    exact ⟨rfl, Fr.refl _ _⟩
/-- A piece of a row of bytes, at whatever place. -/
theorem src_part {w : World} {base N bc a n : Nat} {bo : Option Addr} {l : List Nat} (h : w.ownsRow base 5 1 (.slice bo N bc) N (cellsOf l)) (hl : l.length = N) (han : a + n ≤ N) : Src w (.slice (bo.map fun x => x.add a) n (bc - a)) ((l.drop a).take n) := by
  have hlt : ((l.drop a).take n).length = n := by rw [List.length_take, List.length_drop]; omega
  rcases h.2 with ⟨e1, e2⟩ | ⟨g, cap, cur, e1, _⟩
  · simp only [Value.slice.injEq] at e1
    obtain ⟨rfl, _, rfl⟩ := e1
    have : l = [] := List.eq_nil_of_length_eq_zero (by omega)
    subst this
    have hn0 : n = 0 := by omega
    subst hn0
    exact .inl ⟨by simp, by simp⟩
  · simp only [Value.slice.injEq] at e1
    obtain ⟨rfl, _, rfl⟩ := e1
    refine .inr (.inl ⟨g, a, bc - a, ?_, fun j v hv => ?_⟩)
    · rw [hlt]; simp [addr_add]
    · have hj : j < n := by
        have := (List.getElem?_eq_some_iff.1 hv).1
        simp [cellsOf] at this
        omega
      refine (h.cellAt (a + j) (by omega)).trans ?_
      rw [← hv]
      simp only [cellsOf, List.map_take, List.map_drop]
      rw [List.getElem?_take_of_lt hj, List.getElem?_drop]
set_option maxRecDepth 100000 in
/-- Read where a file has not so many bytes. -/
theorem read_bad (d m : Nat) (s : DM) (q : DW) (O : Nat → Prop) (name : ByteArray) (a n : Int) (w : World) (h : DkAt w d m s q O) (ho : s.off = false) (hnm : name.size ≤ maxLen) (hh : Maps.has s.D (.string (nm name)) = true) (hb : (s.F (nm name)).b.length ≤ 1048576) (hn : a < 0 ∨ n < 0 ∨ ((s.F (nm name)).b.length : Int) < a ∨ ((s.F (nm name)).b.length : Int) - a < n) :
    Calls Try.prog 20 #[.pointer (some ⟨d, 0, none⟩), .string name, .int .i64 a, .int .i64 n] w fun e w' => e = .returned (.tuple #[.slice none 0 0, .int .i64 1]) ∧ Fr (fun _ => False) w w' := by
  have HF := hide (find_at d m s q O name w h ho hnm hh)
  obtain ⟨c0, _⟩ := (h.at_ _ hh).2.cells
  obtain ⟨bo, bc, e⟩ := own_form (h.at_ _ hh).2.bo
  rw [e] at c0
  clear h ho hnm hh e
  generalize (s.F (nm name)).b.length = BL at *
  by_cases h1 : a < 0
  · clear hn
    go_enter Try.func20, Try.ntmps20
    go_wp2_with (go_at_call 33; refine (unhide HF).mono ?_; rintro e w' ⟨rfl, rfl⟩; clear HF)
    go_ret2
    exact ⟨rfl, Fr.refl _ _⟩
  · by_cases h2 : n < 0
    · clear hn
      go_enter Try.func20, Try.ntmps20
      go_wp2_with (go_at_call 33; refine (unhide HF).mono ?_; rintro e w' ⟨rfl, rfl⟩; clear HF)
      go_ret2
      exact ⟨rfl, Fr.refl _ _⟩
    · by_cases h3 : (BL : Int) < a
      · clear hn
        go_enter Try.func20, Try.ntmps20
        go_wp2_with (go_at_call 33; refine (unhide HF).mono ?_; rintro e w' ⟨rfl, rfl⟩; clear HF)
        go_ret2
        exact ⟨rfl, Fr.refl _ _⟩
      · have h4 : (BL : Int) - a < n := by omega
        clear hn
        go_enter Try.func20, Try.ntmps20
        go_wp2_with (go_at_call 33; refine (unhide HF).mono ?_; rintro e w' ⟨rfl, rfl⟩; clear HF)
        go_ret2
        exact ⟨rfl, Fr.refl _ _⟩
set_option maxHeartbeats 1000000 in
set_option maxRecDepth 100000 in
/-- Read(name, a, n). -/
theorem read_at (d m a n : Nat) (s : DM) (q : DW) (O : Nat → Prop) (name : ByteArray) (w : World) (h : DkAt w d m s q O) (ho : s.off = false) (hn : name.size ≤ maxLen) (hh : Maps.has s.D (.string (nm name)) = true) (hb : (s.F (nm name)).b.length ≤ 1048576) (hl : a + n ≤ (s.F (nm name)).b.length) :
    Calls Try.prog 20 #[.pointer (some ⟨d, 0, none⟩), .string name, .int .i64 (a : Nat), .int .i64 (n : Nat)] w fun e w' => ∃ v, e = .returned (.tuple #[v, .int .i64 0]) ∧ w'.ownsRow w.heap.size 5 1 v n (cellsOf (((s.F (nm name)).b.drop a).take n)) ∧ Fr (fun _ => False) w w' := by
  have HF := hide (find_at d m s q O name w h ho hn hh)
  have hA := (h.at_ _ hh).2
  obtain ⟨c0, _⟩ := hA.cells
  obtain ⟨bo, bc, e⟩ := own_form hA.bo
  rw [e] at c0
  have hbo := hA.bo
  rw [e] at hbo
  have hcap : (s.F (nm name)).b.length ≤ bc := by
    rcases hbo.2 with ⟨_, e2⟩ | ⟨g, c, cur, e2, _, _, hc, _⟩
    · omega
    · simp only [Value.slice.injEq] at e2; omega
  have hsrc := src_part (a := a) (n := n) hbo rfl hl
  have hlt : (((s.F (nm name)).b.drop a).take n).length = n := by rw [List.length_take, List.length_drop]; omega
  generalize hB : (s.F (nm name)).b = B at *
  have HC : Hid (∀ x, x = Value.slice (bo.map fun x => x.add a) n (bc - a) ∨ (bc = a ∧ x = Value.slice bo n 0) → ∀ W, Fr (fun _ => False) w W → Calls Try.prog 52 #[x] W fun e w' => ∃ v, e = .returned v ∧ w'.ownsRow w.heap.size 5 1 v n (cellsOf ((B.drop a).take n)) ∧ Fr (fun _ => False) w w') := fun x hx W hW => by
    have hsx : Src w x ((B.drop a).take n) := by
      rcases hx with rfl | ⟨e1, rfl⟩
      · exact hsrc
      · have hn0 : n = 0 := by omega
        subst hn0
        have e0 : (B.drop a).take 0 = [] := by simp
        rw [e0]
        cases bo with
        | none => exact .inl ⟨rfl, rfl⟩
        | some ad => exact .inr (.inr ⟨ad, 0, rfl, rfl⟩)
    refine (clone_any _ _ W (hsx.fr hW (fun _ _ _ _ _ h => h)) (by rw [hlt]; omega)).mono ?_
    rintro e w' ⟨v, h1, h2, h3⟩
    rw [hlt] at h2
    exact ⟨v, h1, own_mono h2 hW.size, hW.trans h3 (fun _ _ h => h)⟩
  generalize B.length = BL at *
  have hab : ¬ ((BL : Int) < (a : Int)) := by omega
  have hab2 : ¬ ((BL : Int) - (a : Int) < (n : Int)) := by omega
  have hab3 : a + n ≤ bc := by omega
  clear h ho hn hh e hA hsrc hbo hlt hB
  go_enter Try.func20, Try.ntmps20
  go_wp2_with (first | (go_at_call 33; refine (unhide HF).mono ?_; rintro e w' ⟨rfl, rfl⟩; clear HF))
  all_goals
    first
      | refine ((unhide HC) _ (.inl rfl) _ (Fr.refl _ _)).mono ?_
      | refine ((unhide HC) _ (.inr ⟨rfl, rfl⟩) _ (Fr.refl _ _)).mono ?_
      | refine ((unhide HC) _ (.inr ⟨by omega, rfl⟩) _ (Fr.refl _ _)).mono ?_
    rintro e w2 ⟨v, rfl, hv, hf⟩
    have H2 := hide (And.intro hv hf)
    clear hv hf
    go_wp2_with fail
    go_ret2
    exact ⟨v, rfl, (unhide H2).1, (unhide H2).2⟩
/-- A bit turned. -/
def FM.turn (f : FM) (a k : Nat) : FM := { f with b := f.b.set a ((f.b.getD a 0 % 256) ^^^ 2 ^ k) }
theorem FAt.turned {w : World} {fb : Nat} {f : FM} {bo : Option Addr} {bc : Nat} {pv : Value} (h : FAt w fb f (.slice bo f.b.length bc) pv) (a k : Nat) (ha : a < f.b.length) (hk : k < 8) (z : Int) (hz : z = (((f.b.getD a 0 % 256) ^^^ 2 ^ k : Nat) : Int)) : ∃ g, bo = some ⟨g, 0, none⟩ ∧ w.cell? ⟨g, a, none⟩ = some (.int .u8 ((f.b.getD a 0 % 256 : Nat) : Int)) ∧ w.frozen? ⟨g, a, none⟩ = false ∧ FAt (w.setCell ⟨g, a, none⟩ (.int .u8 z)) fb (f.turn a k) (.slice bo f.b.length bc) pv ∧ Fr (fun b => b = g) w (w.setCell ⟨g, a, none⟩ (.int .u8 z)) := by
  rcases h.bo.2 with ⟨e1, e2⟩ | ⟨g, cap, cur, e1, _, e3, _⟩
  · omega
  · simp only [Value.slice.injEq] at e1
    obtain ⟨rfl, _, rfl⟩ := e1
    have hset : (f.b.set a ((f.b.getD a 0 % 256) ^^^ 2 ^ k)).length = f.b.length := List.length_set
    have hcell : w.cell? ⟨g, a, none⟩ = some (.int .u8 ((f.b.getD a 0 % 256 : Nat) : Int)) := by
      rw [h.bo.cellAt a (by omega)]
      simp [cellsOf, B, ha, List.getD]
    have hlt : (f.b.getD a 0 % 256) ^^^ 2 ^ k < 256 := Nat.xor_lt_two_pow (n := 8) (Nat.mod_lt _ (by decide)) (Nat.pow_lt_pow_right (by decide) hk)
    refine ⟨g, rfl, hcell, by simp [World.frozen?, e3], ⟨?_, ?_, ?_⟩, (Fr.refl _ _).at1 _ _⟩
    · have hne := (h.kinds.1 g rfl).1
      rw [Below.heap_setCell _ _ _ _ (fun e => hne e.symm)]
      exact h.blk
    · show (w.setCell ⟨g, a, none⟩ (.int .u8 z)).ownsRow 0 5 1 (.slice (some ⟨g, 0, none⟩) f.b.length bc) (f.b.set a _).length (cellsOf (f.b.set a _))
      rw [hset]
      have hc : cellsOf (f.b.set a ((f.b.getD a 0 % 256) ^^^ 2 ^ k)) = (cellsOf f.b).set a (.int .u8 z) := by
        rw [hz]
        simp only [cellsOf, List.map_set, B]
        rw [Nat.mod_eq_of_lt hlt]
      rw [hc]
      exact (h.bo.stored a _).1
    · exact ownsRow_of_block h.po (fun g2 hg => by
        have hne : g2 ≠ g := fun e => (h.kinds.1 g rfl).2 (e ▸ hg)
        rw [Below.heap_setCell _ _ _ _ hne])
end Go.Proofs.Ytoflkfnmbighaaa
