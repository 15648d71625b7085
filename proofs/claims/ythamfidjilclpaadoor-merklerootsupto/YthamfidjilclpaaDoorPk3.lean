import Derived.Test.YthamfidjilclpaaDoorPk2
import Derived.Test.YthamfidjilclpaaDoorPk1
namespace Go.Proofs.YthamfidjilclpaaDoor
open Go.RowKit

set_option maxRecDepth 100000 in
set_option maxHeartbeats 1000000 in
theorem tpath_in (tb wi : Nat) (hw1 : 1 ≤ wi) (hw32 : wi ≤ 32) (L : List (List Nat)) (i n : Nat) (w : World) (hT : Tk w tb wi L) (hn : n ≤ L.length) (hi : i < n) :
    Calls Tryd.prog 43 #[.pointer (some ⟨tb, 0, none⟩), .int .i64 i, .int .i64 n] w fun e w' => ∃ ao cp vs, e = .returned (.tuple #[.slice ao vs.length cp, .int .i64 0]) ∧ OL w w' ao cp vs (bes wi L 0 n i 1) := by
  obtain ⟨c0, c1, htb⟩ := hT.c0
  have hhas : Calls Tryd.prog 55 #[.pointer (some ⟨tb, 0, none⟩), .int .i64 n] w fun e w' => e = .returned (.bool true) ∧ w' = w := by
    have := has_any tb L.length wi n w c0 c1
    rw [decide_eq_true (by omega)] at this
    exact this
  have hbes : ∀ w', Fr (fun _ => False) w w' → BesSays tb wi L 0 n i 1 w' := fun w' hf => beside_any tb wi hw1 hw32 L n 0 n i 1 w' (Nat.le_refl _) (hT.fr0 hf) (al_zero n) (by omega) (rch_one n 0 n i (Nat.le_refl _) (by omega) (by omega))
  unfold BesSays sv at hbes
  have HG := hide (And.intro hhas hbes)
  have q1 : ¬ (i : Int) < 0 := by omega
  have q2 : ¬ (n : Int) ≤ (i : Int) := by omega
  have q3 : ¬ n ≤ i := by omega
  clear hhas hbes hT c0 c1 htb hn
  go_enter Tryd.func43, Tryd.ntmps43
  go_wp2_with fail
  refine (unhide HG).1.mono ?_
  rintro e w0 ⟨rfl, rfl⟩
  go_wp2_with fail
  refine (first_any _ _ _).mono ?_
  rintro e w1 ⟨rfl, hF1⟩
  have H1 := hide hF1
  clear hF1
  go_wp2_with fail
  refine ((unhide HG).2 w1 (unhide H1)).mono ?_
  rintro e w2 ⟨ao, cp, vs, rfl, hO⟩
  have H2 := hide (hO.base (unhide H1))
  clear hO
  go_wp2_with fail
  go_returns
  exact ⟨ao, cp, vs, rfl, unhide H2⟩
set_option maxRecDepth 100000 in
theorem tpath_no (tb n : Nat) (wi i k : Int) (w : World) (c0 : w.cell? ⟨tb, 0, none⟩ = some (.int .i64 wi)) (c1 : w.cell? ⟨tb, 1, none⟩ = some (.int .i64 n)) (h : ¬ (1 ≤ wi ∧ wi ≤ 32 ∧ 0 ≤ k ∧ k ≤ n) ∨ i < 0 ∨ k ≤ i) :
    Calls Tryd.prog 43 #[.pointer (some ⟨tb, 0, none⟩), .int .i64 i, .int .i64 k] w fun e w' => e = .returned (.tuple #[.slice none 0 0, .int .i64 1]) ∧ w' = w := by
  have hhas := has_any tb n wi k w c0 c1
  by_cases hh : 1 ≤ wi ∧ wi ≤ 32 ∧ 0 ≤ k ∧ k ≤ n
  · rw [decide_eq_true hh] at hhas
    have HG := hide hhas
    have h' : i < 0 ∨ k ≤ i := by omega
    clear hhas h c0 c1
    by_cases hi : i < 0
    · clear h' hh
      go_enter Tryd.func43, Tryd.ntmps43
      go_wp2_with fail
      refine (unhide HG).mono ?_
      rintro e w0 ⟨rfl, rfl⟩
      go_wp2_with fail
      go_returns
      exact ⟨rfl, rfl⟩
    · have hk : k ≤ i := by omega
      clear h' hh
      go_enter Tryd.func43, Tryd.ntmps43
      go_wp2_with fail
      refine (unhide HG).mono ?_
      rintro e w0 ⟨rfl, rfl⟩
      go_wp2_with fail
      go_returns
      exact ⟨rfl, rfl⟩
  · rw [decide_eq_false hh] at hhas
    have HG := hide hhas
    clear hhas h hh c0 c1
    go_enter Tryd.func43, Tryd.ntmps43
    go_wp2_with fail
    refine (unhide HG).mono ?_
    rintro e w0 ⟨rfl, rfl⟩
    go_wp2_with fail
    go_returns
    exact ⟨rfl, rfl⟩
set_option maxRecDepth 100000 in
set_option maxHeartbeats 1000000 in
/-- merkle.Path, of an entry. -/
theorem mpath_in (wi : Nat) (hw1 : 1 ≤ wi) (hw32 : wi ≤ 32) (x : Value) (us : List Value) (es : List (List Nat)) (i : Nat) (w : World) (hg : GS w) (ht : GT w) (hp : Pcs w x us es) (hB : ∀ e ∈ es, e.length ≤ 16000000) (hn : es.length ≤ 8000000) (hi : i < es.length) :
    Calls Tryd.prog 14 #[.int .i64 wi, x, .int .i64 i] w fun e w' => ∃ ao cp vs, e = .returned (.tuple #[.slice ao vs.length cp, .int .i64 0]) ∧ OL w w' ao cp vs (bes wi (es.map (lf wi)) 0 es.length i 1) := by
  have hgr := grown_in wi hw1 hw32 x us es w hg hp hB hn
  have htr : ∀ w' tb, Tk w' tb wi (es.map (lf wi)) → _ := fun w' tb hT => tpath_in tb wi hw1 hw32 (es.map (lf wi)) i es.length w' hT (by rw [List.length_map]; exact Nat.le_refl _) hi
  obtain ⟨xo, xc, rfl⟩ := hp.form
  have HT := hide (fun (w' : World) (tb base : Nat) (xo : Option Addr) (cp : Nat) (vs : List Value) (rs : List (List Nat)) (hT : TrAt w' base tb wi es.length xo cp vs rs) hR hf => tk_of hw1 hw32 hT hR hg ht hf hn)
  have HG := hide (And.intro hgr htr)
  clear hgr htr hg ht hp hB hi hn
  generalize bes wi (es.map (lf wi)) 0 es.length i 1 = M at *
  generalize es.length = N at *
  go_enter Tryd.func14, Tryd.ntmps14
  go_wp2_with fail
  refine (unhide HG).1.mono ?_
  rintro e w1 ⟨rfl, yo, cp, vs, rs, hT, hR, hF⟩
  have hk := (unhide HT) _ _ _ _ _ _ _ hT hR hF
  have H1 := hide (And.intro hk hF)
  clear hk hF hT hR
  generalize w.heap.size = TB at *
  go_wp2_with fail
  refine ((unhide HG).2 w1 TB (unhide H1).1).mono ?_
  rintro e w2 ⟨ao, cp, vs, rfl, hO⟩
  have H2 := hide (hO.base (unhide H1).2)
  clear hO
  go_wp2_with fail
  go_returns
  exact ⟨ao, cp, vs, rfl, unhide H2⟩
set_option maxRecDepth 100000 in
set_option maxHeartbeats 1000000 in
theorem mpath_no (j : Int) (i : Int) (x : Value) (us : List Value) (es : List (List Nat)) (w : World) (hg : GS w) (hp : Pcs w x us es) (hB : ∀ e ∈ es, e.length ≤ 16000000) (hn : es.length ≤ 8000000) (hi : (j < 1 ∨ 32 < j) ∨ i < 0 ∨ (es.length : Int) ≤ i) :
    Calls Tryd.prog 14 #[.int .i64 j, x, .int .i64 i] w fun e w' => e = .returned (.tuple #[.slice none 0 0, .int .i64 1]) ∧ Fr (fun _ => False) w w' := by
  have hgr : Calls Tryd.prog 42 #[.int .i64 j, x] w fun e w' => e = .returned (.pointer (some ⟨w.heap.size, 0, none⟩)) ∧ w'.cell? ⟨w.heap.size, 0, none⟩ = some (.int .i64 j) ∧ w'.cell? ⟨w.heap.size, 1, none⟩ = some (.int .i64 es.length) ∧ Fr (fun _ => False) w w' := by
    by_cases hj : 1 ≤ j ∧ j ≤ 32
    · obtain ⟨wi, rfl⟩ : ∃ n : Nat, j = (n : Int) := ⟨j.toNat, by omega⟩
      refine (grown_in wi (by omega) (by omega) x us es w hg hp hB hn).mono ?_
      rintro e w' ⟨rfl, xo, cp, vs, rs, hT, _, hF⟩
      exact ⟨rfl, hT.cells.1, hT.cells.2.1, hF⟩
    · refine (grown_out j (by omega) x us es w hp hn).mono ?_
      rintro e w' ⟨rfl, hT, hF⟩
      exact ⟨rfl, hT.cells.1, hT.cells.2.1, hF⟩
  have htr : ∀ (w' : World) (tb : Nat), w'.cell? ⟨tb, 0, none⟩ = some (.int .i64 j) → w'.cell? ⟨tb, 1, none⟩ = some (.int .i64 es.length) → _ := fun w' tb h0 h1 => tpath_no tb es.length j i es.length w' h0 h1 (by omega)
  obtain ⟨xo, xc, rfl⟩ := hp.form
  have HG := hide (And.intro hgr htr)
  clear hgr htr hp hg hB hn hi
  generalize es.length = N at *
  go_enter Tryd.func14, Tryd.ntmps14
  go_wp2_with fail
  refine (unhide HG).1.mono ?_
  rintro e w1 ⟨rfl, h0, h1, hF⟩
  have H1 := hide (And.intro h0 (And.intro h1 hF))
  clear hF h0 h1
  generalize w.heap.size = TB at *
  go_wp2_with fail
  refine ((unhide HG).2 w1 TB (unhide H1).1 (unhide H1).2.1).mono ?_
  rintro e w2 ⟨rfl, rfl⟩
  go_wp2_with fail
  go_returns
  exact ⟨rfl, (unhide H1).2.2⟩
end Go.Proofs.YthamfidjilclpaaDoor

namespace Go.Proofs.YthamfidjilclpaaDoor
open Go.RowKit

set_option maxRecDepth 100000 in
set_option maxHeartbeats 1000000 in
theorem hex_O (s : ByteArray) (w : World) (hs : s.size < 1048576) : Calls Tryd.prog 13 #[.string s] w fun e w' => ∃ yo yc, e = .returned (.slice yo (hxl (bytesOf s)).length yc) ∧ OB w w' yo yc (hxl (bytesOf s)) := by
  go_enter Tryd.func13, Tryd.ntmps13
  go_wp2_with fail
  go_loopw [3, 4] (fun x i wr => ∃ k j : Nat, j = 2 * k ∧ j ≤ s.size ∧ i = .int .i64 j ∧ wr.ownsRow w.heap.size 5 1 x k (cellsOf (hxk (bytesOf s) k)) ∧ Fr (fun _ => False) w wr) (fun _ i _ => s.size - (intOf i).toNat)
  case atStart => exact ⟨0, 0, rfl, Nat.zero_le _, rfl, own_nil w _, Fr.refl _ _⟩
  case round =>
    obtain ⟨k, j, hj, hjs, rfl, ho, hF⟩ := hrel
    rename World => wr
    rename_i x'
    by_cases hlt : j + 1 < s.size
    · have hlt1 : j < s.size := by omega
      have hlt2 : j < s.data.size := hlt1
      have hlt3 : j + 1 < s.data.size := hlt
      have a0 : s[j].toNat < 256 := s[j].toNat_lt
      have a1 : s[j + 1].toNat < 256 := s[j + 1].toNat_lt
      have e0 : (bytesOf s).getD (2 * k) 0 = s[j].toNat := by
        rw [← hj, List.getD, List.getElem?_eq_getElem (by rw [bytesOf_length]; exact hlt1)]; simp [bytesOf]; rfl
      have e1 : (bytesOf s).getD (2 * k + 1) 0 = s[j + 1].toNat := by
        rw [← hj, List.getD, List.getElem?_eq_getElem (by rw [bytesOf_length]; exact hlt)]; simp [bytesOf]; rfl
      have hv : hbl (bytesOf s) k = (dg s[j].toNat * 16 % 256) ||| dg s[j + 1].toNat := by rw [hbl, e0, e1]
      have hj2 : j + 2 ≤ s.size := by omega
      obtain ⟨xo, xcap, rfl⟩ := own_form ho
      have x0 : ∀ w0 : World, (Instr.index 9 (.string s) (.int .i64 (j : Int))).run Tryd.prog w0 = .ok (.int .u8 (s[j].toNat : Int)) w0 := fun w0 => by
        rw [run_index_string _ _ _ _ _ Tryd.underlying9, dif_pos ⟨by omega, by omega⟩]
        simp only [Int.toNat_natCast]
      have x1 : ∀ w0 : World, (Instr.index 9 (.string s) (.int .i64 ((j : Int) + 1))).run Tryd.prog w0 = .ok (.int .u8 (s[j + 1].toNat : Int)) w0 := fun w0 => by
        have e : (j : Int) + 1 = ((j + 1 : Nat) : Int) := by omega
        rw [e, run_index_string _ _ _ _ _ Tryd.underlying9, dif_pos ⟨by omega, by omega⟩]
        simp only [Int.toNat_natCast]
      generalize s[j].toNat = A at *
      generalize s[j + 1].toNat = B1 at *
      have i1 : (j : Int) + 1 < (s.size : Int) := by omega
      have r0 : IntKind.i64.wrap ((j : Int) + 1) = (j : Int) + 1 := by rw [IntKind.wrap_i64]; omega
      have j0 : (0 : Int) ≤ (j : Int) + 1 := by omega
      have d0 := dg_lt A a0
      have d1 := dg_lt B1 a1
      have hd0 := fun w0 => digit_any A w0 a0
      have hd1 := fun w0 => digit_any B1 w0 a1
      generalize dg A = DA at *
      generalize dg B1 = DB at *
      have p1 : IntKind.u8.wrap ((DA : Int) * 16) = ((DA * 16 % 256 : Nat) : Int) := by rw [IntKind.wrap_u8]; omega
      have p1' : (DA : Int) * 16 % 256 = ((DA * 16 % 256 : Nat) : Int) := by omega
      have p2 := u8_or_nat (DA * 16 % 256) DB (Nat.mod_lt _ (by decide)) d1
      have vlt : (DA * 16 % 256) ||| DB < 256 := Nat.or_lt_two_pow (n := 8) (Nat.mod_lt _ (by decide)) d1
      generalize DA * 16 % 256 = P at *
      generalize P ||| DB = V at *
      have ho2 : (wr.alloc (.cells #[.int .u8 (V : Int)] 5)).drew.ownsRow w.heap.size 5 1 (.slice xo k xcap) k (cellsOf (hxk (bytesOf s) k)) := ownsRow_of_block (w' := (wr.alloc (.cells #[.int .u8 (V : Int)] 5)).drew) ho (fun g hg => Below.heap_alloc _ _ _ (ho.lt g hg).2)
      have hsr : Src (wr.alloc (.cells #[.int .u8 (V : Int)] 5)).drew (.slice (some ⟨wr.heap.size, 0, none⟩) 1 1) [V] := (lit_src wr [V] #[.int .u8 (V : Int)] 1 1 rfl (by simp [cellsOf, B, Nat.mod_eq_of_lt vlt])).fr0 (Fr.refl _ _).drew
      obtain ⟨ao, c', w2, hr, hown, hgrow, hat⟩ := run_app_sl _ 26 w.heap.size k _ _ _ [V] ho2 hsr (by simp; omega) (by have := hF.size; simp; omega)
      have hF2 : Fr (fun _ => False) w w2 := ((hF.alloc _).drew).grown hgrow (fun g hg => .inr (ho.lt g hg).1)
      have hnew : w2.ownsRow w.heap.size 5 1 (.slice ao (k + 1) c') (k + 1) (cellsOf (hxk (bytesOf s) (k + 1))) := by
        rw [hxk_succ, hv, cellsOf_append]; exact hown
      have hj' : j + 2 = 2 * (k + 1) := by omega
      have HR := hide hr
      have HV := hide (And.intro hnew (And.intro hF2 hj'))
      clear hv hj ho hF e0 e1 hlt1 hlt2 hlt3 ho2 hsr hr hown hgrow hat hF2 hnew hj'
      go_wp2_with fail
      go_region_held3 (fun _ => True) (trivial) (first
        | (go_at_call 41; refine (hd0 _).mono ?_; rintro e w' ⟨rfl, rfl⟩; clear hd0)
        | (go_at_call 41; refine (hd1 _).mono ?_; rintro e w' ⟨rfl, rfl⟩)
        | (refine step_app rfl (.tmp 12) (.tmp 24) 26 26 rfl (.slice xo k xcap) (.slice (some ⟨wr.heap.size, 0, none⟩) 1 1) _ (by simp [Act.eval]) (by simp [Act.eval]) (unhide HR) ?_))
      all_goals
        go_wp2_with fail
        exact ⟨⟨k + 1, j + 2, (unhide HV).2.2, hj2, by go_num, (unhide HV).1, (unhide HV).2.1⟩, by simp [intOf]; omega⟩
    · have hlt' : ¬ (j : Int) + 1 < (s.size : Int) := by omega
      have e : hxl (bytesOf s) = hxk (bytesOf s) k := by rw [hxl, bytesOf_length]; congr 1; omega
      obtain ⟨xo, xcap, rfl⟩ := own_form ho
      have hO : OB w wr xo xcap (hxk (bytesOf s) k) := ⟨by rw [hxk_len]; exact ho, hF⟩
      have hl := hxk_len (bytesOf s) k
      rw [← e] at hO hl
      have HV := hide (And.intro hO hl)
      clear hO hF ho e hj hl
      go_wp2_with fail
      go_ret
      exact ⟨xo, xcap, by rw [(unhide HV).2]; rfl, (unhide HV).1⟩
/-- A literal of slices of bytes. -/
theorem pcs_lit {w : World} {vs : List Value} {ps : List (List Nat)} (hl : vs.length = ps.length) (hs : ∀ (j : Nat) v p, vs[j]? = some v → ps[j]? = some p → Sl w v p) (W : World) (hW : w.alloc (.cells vs.toArray 26) = W) (n : Nat) (hn : vs.length = n) : Pcs W (.slice (some ⟨w.heap.size, 0, none⟩) n n) vs ps ∧ Fr (fun _ => False) w W := by
  have hF1 : Fr (fun _ => False) w W := by rw [← hW]; exact (Fr.refl _ _).alloc _
  have hc : ∀ j, W.cell? ⟨w.heap.size, 0 + j, none⟩ = vs.toArray[j]? := fun j => by rw [Nat.zero_add, ← hW, World.cell?_alloc_at _ _ _ _ rfl]
  have hlt : w.heap.size < W.heap.size := by rw [← hW]; simp
  refine ⟨⟨hl, .inr (.inr ⟨w.heap.size, 0, n, by rw [hn], hlt, fun j v hv => ?_⟩), fun j v p hv hp => ?_, fun p hp => ?_⟩, hF1⟩
  · rw [hc j]; simpa using hv
  · have := (hs j v p hv hp).fr0 hF1
    exact ⟨this.s, this.cap, this.lt⟩
  · obtain ⟨j, hj, rfl⟩ := List.getElem_of_mem hp
    exact (hs j (vs[j]'(by omega)) ps[j] (List.getElem?_eq_getElem _) (List.getElem?_eq_getElem hj)).b
/-- The entries of the document's examples. -/
def tes : List (List Nat) := [[], [0], [16], [32, 33], [48, 49], [64, 65, 66, 67], [80, 81, 82, 83, 84, 85, 86, 87], [96, 97, 98, 99, 100, 101, 102, 103, 104, 105, 106, 107, 108, 109, 110, 111]]
theorem hex_lit (s : ByteArray) (l : List Nat) (w : World) (hs : s.size < 1048576) (hl : hxl (bytesOf s) = l) (n : Nat) (hn : l.length = n) (hb : ∀ v ∈ l, v < 256) : Calls Tryd.prog 13 #[.string s] w fun e w' => ∃ yo yc, e = .returned (.slice yo n yc) ∧ Sl w' (.slice yo n yc) l ∧ Fr (fun _ => False) w w' := by
  refine (hex_O s w hs).mono ?_
  rintro e w' ⟨yo, yc, rfl, hO⟩
  rw [hl] at hO ⊢
  have := hO.sl hb
  rw [hn] at this ⊢
  exact ⟨yo, yc, rfl, this, hO.fr⟩
theorem sl_nil (w : World) : Sl w (.slice none 0 0) [] := ⟨.inl ⟨rfl, rfl⟩, fun _ _ _ e => by cases e; exact Nat.le_refl _, .inl rfl, fun _ h => by cases h⟩
set_option maxRecDepth 100000 in
set_option maxHeartbeats 4000000 in
theorem tests_any (w : World) : Calls Tryd.prog 9 #[] w fun e w' => ∃ g vs, e = .returned (.slice (some ⟨g, 0, none⟩) 8 8) ∧ Pcs w' (.slice (some ⟨g, 0, none⟩) 8 8) vs tes ∧ Fr (fun _ => False) w w' := by
  go_enter Tryd.func9, Tryd.ntmps9
  go_wp2_with fail
  refine (hex_lit ⟨#[48, 48]⟩ [0] _ (by decide) (by decide) 1 rfl (by decide)).mono ?_
  rintro e w1 ⟨a1, c1, rfl, hS, hF⟩
  have S1 := hide hS
  have F1 := hide hF
  clear hS hF
  go_wp2_with fail
  refine (hex_lit ⟨#[49, 48]⟩ [16] _ (by decide) (by decide) 1 rfl (by decide)).mono ?_
  rintro e w2 ⟨a2, c2, rfl, hS, hF⟩
  have S1 := hide ((unhide S1).fr0 hF)
  have S2 := hide hS
  have F2 := hide ((unhide F1).trans hF (fun _ _ h => h))
  clear hS hF
  go_wp2_with fail
  refine (hex_lit ⟨#[50, 48, 50, 49]⟩ [32, 33] _ (by decide) (by decide) 2 rfl (by decide)).mono ?_
  rintro e w3 ⟨a3, c3, rfl, hS, hF⟩
  have S1 := hide ((unhide S1).fr0 hF)
  have S2 := hide ((unhide S2).fr0 hF)
  have S3 := hide hS
  have F3 := hide ((unhide F2).trans hF (fun _ _ h => h))
  clear hS hF
  go_wp2_with fail
  refine (hex_lit ⟨#[51, 48, 51, 49]⟩ [48, 49] _ (by decide) (by decide) 2 rfl (by decide)).mono ?_
  rintro e w4 ⟨a4, c4, rfl, hS, hF⟩
  have S1 := hide ((unhide S1).fr0 hF)
  have S2 := hide ((unhide S2).fr0 hF)
  have S3 := hide ((unhide S3).fr0 hF)
  have S4 := hide hS
  have F4 := hide ((unhide F3).trans hF (fun _ _ h => h))
  clear hS hF
  go_wp2_with fail
  refine (hex_lit ⟨#[52, 48, 52, 49, 52, 50, 52, 51]⟩ [64, 65, 66, 67] _ (by decide) (by decide) 4 rfl (by decide)).mono ?_
  rintro e w5 ⟨a5, c5, rfl, hS, hF⟩
  have S1 := hide ((unhide S1).fr0 hF)
  have S2 := hide ((unhide S2).fr0 hF)
  have S3 := hide ((unhide S3).fr0 hF)
  have S4 := hide ((unhide S4).fr0 hF)
  have S5 := hide hS
  have F5 := hide ((unhide F4).trans hF (fun _ _ h => h))
  clear hS hF
  go_wp2_with fail
  refine (hex_lit ⟨#[53, 48, 53, 49, 53, 50, 53, 51, 53, 52, 53, 53, 53, 54, 53, 55]⟩ [80, 81, 82, 83, 84, 85, 86, 87] _ (by decide) (by decide) 8 rfl (by decide)).mono ?_
  rintro e w6 ⟨a6, c6, rfl, hS, hF⟩
  have S1 := hide ((unhide S1).fr0 hF)
  have S2 := hide ((unhide S2).fr0 hF)
  have S3 := hide ((unhide S3).fr0 hF)
  have S4 := hide ((unhide S4).fr0 hF)
  have S5 := hide ((unhide S5).fr0 hF)
  have S6 := hide hS
  have F6 := hide ((unhide F5).trans hF (fun _ _ h => h))
  clear hS hF
  go_wp2_with fail
  refine (hex_lit ⟨#[54, 48, 54, 49, 54, 50, 54, 51, 54, 52, 54, 53, 54, 54, 54, 55, 54, 56, 54, 57, 54, 97, 54, 98, 54, 99, 54, 100, 54, 101, 54, 102]⟩ [96, 97, 98, 99, 100, 101, 102, 103, 104, 105, 106, 107, 108, 109, 110, 111] _ (by decide) (by decide) 16 rfl (by decide)).mono ?_
  rintro e w7 ⟨a7, c7, rfl, hS, hF⟩
  have S1 := hide ((unhide S1).fr0 hF)
  have S2 := hide ((unhide S2).fr0 hF)
  have S3 := hide ((unhide S3).fr0 hF)
  have S4 := hide ((unhide S4).fr0 hF)
  have S5 := hide ((unhide S5).fr0 hF)
  have S6 := hide ((unhide S6).fr0 hF)
  have S7 := hide hS
  have F7 := hide ((unhide F6).trans hF (fun _ _ h => h))
  clear hS hF
  go_wp2_with fail
  go_ret
  obtain ⟨hP, hF⟩ := pcs_lit (w := w7) (vs := [.slice none 0 0, .slice a1 1 c1, .slice a2 1 c2, .slice a3 2 c3, .slice a4 2 c4, .slice a5 4 c5, .slice a6 8 c6, .slice a7 16 c7]) (ps := tes) rfl (fun j v p hv hp => by
    match j with
    | 0 => simp [tes] at hv hp; subst hv hp; exact sl_nil _
    | 1 => simp [tes] at hv hp; subst hv hp; exact unhide S1
    | 2 => simp [tes] at hv hp; subst hv hp; exact unhide S2
    | 3 => simp [tes] at hv hp; subst hv hp; exact unhide S3
    | 4 => simp [tes] at hv hp; subst hv hp; exact unhide S4
    | 5 => simp [tes] at hv hp; subst hv hp; exact unhide S5
    | 6 => simp [tes] at hv hp; subst hv hp; exact unhide S6
    | 7 => simp [tes] at hv hp; subst hv hp; exact unhide S7
    | j + 8 => simp at hv) _ rfl 8 rfl
  exact ⟨_, _, rfl, hP, (unhide F7).trans hF (fun _ _ h => h)⟩
end Go.Proofs.YthamfidjilclpaaDoor

namespace Go.Proofs.YthamfidjilclpaaDoor

/-- The hash of a tree, with a bound on the halvings. -/
def mthF (i : Int) : Nat → List (List Nat) → List Nat
  | 0, _ => []
  | k + 1, ps => if ps.length < 2 then (match ps with | [] => sm i [] | p :: _ => p) else nd i (mthF i k (ps.take (hf ps.length))) (mthF i k (ps.drop (hf ps.length)))
theorem mthF_eq (i : Int) (k : Nat) : ∀ ps : List (List Nat), ps.length < k → mthF i k ps = mth i ps := by
  induction k with
  | zero => intro ps h; omega
  | succ k ih =>
    intro ps h
    unfold mthF
    by_cases h2 : ps.length < 2
    · rw [if_pos h2]
      match ps, h2 with
      | [], _ => rw [mth_nil]
      | [p], _ => rw [mth_one]
    · have h3 := hf_lt ps.length (by omega)
      have h4 := hf_pos ps.length
      rw [if_neg h2, mth_two i ps (by omega), ih _ (by rw [List.length_take]; omega), ih _ (by rw [List.length_drop]; omega)]
def rootB : List Nat := [93, 201, 218, 121, 167, 6, 89, 169, 173, 85, 156, 183, 1, 222, 217, 162, 171, 157, 130, 58, 173, 47, 73, 96, 207, 227, 112, 239, 244, 96, 67, 40]
def leafB : List Nat := [110, 52, 11, 156, 255, 179, 122, 152, 156, 165, 68, 230, 187, 120, 10, 44, 120, 144, 29, 63, 179, 55, 56, 118, 133, 17, 163, 6, 23, 175, 160, 29]
theorem rootB_hex : hxl (bytesOf ⟨#[53, 100, 99, 57, 100, 97, 55, 57, 97, 55, 48, 54, 53, 57, 97, 57, 97, 100, 53, 53, 57, 99, 98, 55, 48, 49, 100, 101, 100, 57, 97, 50, 97, 98, 57, 100, 56, 50, 51, 97, 97, 100, 50, 102, 52, 57, 54, 48, 99, 102, 101, 51, 55, 48, 101, 102, 102, 52, 54, 48, 52, 51, 50, 56]⟩) = rootB := by decide +kernel
theorem leafB_hex : hxl (bytesOf ⟨#[54, 101, 51, 52, 48, 98, 57, 99, 102, 102, 98, 51, 55, 97, 57, 56, 57, 99, 97, 53, 52, 52, 101, 54, 98, 98, 55, 56, 48, 97, 50, 99, 55, 56, 57, 48, 49, 100, 51, 102, 98, 51, 51, 55, 51, 56, 55, 54, 56, 53, 49, 49, 97, 51, 48, 54, 49, 55, 97, 102, 97, 48, 49, 100]⟩) = leafB := by decide +kernel
theorem leaf_nil : lf 32 [] = leafB := by decide +kernel
theorem root_tes : mthF 32 9 (tes.map (lf 32)) = rootB := by decide +kernel
theorem root_tests : mth 32 (tes.map (lf 32)) = rootB := by rw [← mthF_eq 32 9 _ (by decide)]; exact root_tes
theorem dep_tests : dep 0 8 0 1 = 3 := by
  have h8 : hf 8 = 4 := by decide +kernel
  have h4 : hf 4 = 2 := by decide +kernel
  have h2 : hf 2 = 1 := by decide +kernel
  rw [dep_l (by decide) (by decide) (by rw [h8]; decide), h8, dep_l (by decide) (by decide) (by rw [h4]; decide), h4, dep_l (by decide) (by decide) (by rw [h2]; decide), h2, dep_eq]
end Go.Proofs.YthamfidjilclpaaDoor

namespace Go.Proofs.YthamfidjilclpaaDoor
open Go.RowKit

theorem bes_wid (wi : Nat) (hw1 : 1 ≤ wi) (hw32 : wi ≤ 32) (L : List (List Nat)) (hL : ∀ p ∈ L, p.length = wi) (m : Nat) : ∀ f n tf tn, n ≤ m → ∀ p ∈ bes wi L f n tf tn, p.length = wi := by
  induction m with
  | zero => intro f n tf tn h p hp; rw [bes, dif_pos (by omega)] at hp; cases hp
  | succ m ih =>
    intro f n tf tn h p hp
    by_cases e : (f = tf ∧ n = tn) ∨ n < 2
    · rw [bes, dif_pos e] at hp; cases hp
    · have hlt := hf_lt n (by omega)
      have hpos := hf_pos n
      by_cases hl : tf < f + hf n
      · rw [bes_l (by omega) (by omega) hl] at hp
        rcases List.mem_append.1 hp with hp | hp
        · exact ih _ _ _ _ (by omega) p hp
        · simp at hp; subst hp; exact mth_wid wi hw1 hw32 _ (fun p hp => hL p (blk_mem _ _ _ p hp))
      · rw [bes_r (by omega) (by omega) hl] at hp
        rcases List.mem_append.1 hp with hp | hp
        · exact ih _ _ _ _ (by omega) p hp
        · simp at hp; subst hp; exact mth_wid wi hw1 hw32 _ (fun p hp => hL p (blk_mem _ _ _ p hp))
theorem wdq_of {j : Int} {ps : List (List Nat)} (h : ∀ p ∈ ps, (p.length : Int) = j) : wdq j ps = true := by
  rw [wdq, List.all_eq_true]
  intro p hp
  simpa using h p hp
/-- A path that the tree tells is taken. -/
theorem chkP_bes (wi : Nat) (hw1 : 1 ≤ wi) (hw32 : wi ≤ 32) (L : List (List Nat)) (hL : ∀ p ∈ L, p.length = wi) (i : Nat) (hi : i < L.length) : chkP wi (L[i]) i L.length (bes wi L 0 L.length i 1) (mth wi L) = true := by
  have hb : blk L i 1 = [L[i]] := by
    rw [blk, List.drop_eq_getElem_cons hi]; rfl
  have ht := topv_bes wi L L.length 0 L.length i 1 (Nat.le_refl _) (by omega) (rch_one _ 0 L.length i (Nat.le_refl _) (by omega) (by omega))
  rw [hb, mth_one, blk_all] at ht
  rw [chkP, decide_eq_true (by omega), decide_eq_true (by omega), decide_eq_true (by omega), wdq_of (fun p hp => ?_), wdq_of (fun p hp => ?_), Int.toNat_natCast, Int.toNat_natCast, Int.toNat_natCast, bes_len _ _ _ _ _ _ _ (Nat.le_refl _), decide_eq_true rfl, ht, decide_eq_true rfl]
  · rfl
  · have := bes_wid wi hw1 hw32 L hL _ 0 L.length i 1 (Nat.le_refl _) p hp
    omega
  · simp at hp
    rcases hp with rfl | rfl
    · have := hL L[i] (List.getElem_mem _); omega
    · have := mth_wid wi hw1 hw32 L hL; omega
theorem chkP_tests : chkP 32 (lf 32 []) 0 8 (bes 32 (tes.map (lf 32)) 0 8 0 1) rootB = true := by
  have := chkP_bes 32 (by decide) (by decide) (tes.map (lf 32)) (map_lf_len 32 (by decide) (by decide) _) 0 (by simp [tes])
  have e : mth ((32 : Nat) : Int) (tes.map (lf 32)) = rootB := root_tests
  rw [e] at this
  exact this
set_option maxRecDepth 100000 in
set_option maxHeartbeats 4000000 in
theorem mlives_any (w : World) (hg : GS w) (ht : GT w) : Calls Tryd.prog 10 #[] w fun e w' => e = .returned (.bool true) ∧ Fr (fun _ => False) w w' := by
  have hB : ∀ e ∈ tes, e.length ≤ 16000000 := by decide
  have hnew : ∀ w', GS w' → Calls Tryd.prog 20 #[.int .i64 32] w' fun e w'' => ∃ tb, e = .returned (.pointer (some ⟨tb, 0, none⟩)) ∧ TrAt w'' w'.heap.size tb 32 0 none 0 [] [] ∧ 6 ≤ w'.heap.size ∧ w'.heap.size ≤ tb ∧ Fr (fun _ => False) w' w'' := fun w' hg' => by
    refine (mnew_any 32 w').mono ?_
    rintro e w'' ⟨rfl, h1, h2⟩
    exact ⟨_, rfl, h1, hg'.1.2, Nat.le_refl _, h2⟩
  have hadd : ∀ (w' : World) (base tb : Nat), GS w' → GT w' → TrAt w' base tb 32 0 none 0 [] [] → 6 ≤ base → Calls Tryd.prog 21 #[.pointer (some ⟨tb, 0, none⟩), .slice none 0 0] w' fun e w'' => e = .returned (.int .i64 0) ∧ Tk w'' tb 32 [lf 32 []] ∧ Fr (TOwn tb none []) w' w'' := fun w' base tb hg' ht' hT hb => by
    refine (add_in 32 (by decide) (by decide) base tb 0 hb w' none 0 [] [] (.slice none 0 0) [] hT hg' (sl_nil _) (by decide) (fun j row h => by simp at h) (by decide) (by decide)).mono ?_
    rintro e w'' ⟨rfl, xo, cp, vs, hT2, hF, _⟩
    have hlo : ∀ k, k < 6 → ¬ TOwn tb none [] k := fun k hk hO => by
      have := (hT.lt k hO).1; omega
    refine ⟨rfl, ⟨⟨base, xo, cp, vs, _, hT2, ?_⟩, hg'.fr hF hlo, ht'.fr hF hlo, fun p hp => ?_, fun p hp => ?_, by decide⟩, hF⟩
    · exact (rows_nil 32).add (by decide) (by decide) (lf 32 []) (fun p hp => by simp at hp; subst hp; exact lf_len 32 (by decide) (by decide) _)
    · simp at hp; subst hp; exact lf_len 32 (by decide) (by decide) _
    · simp at hp; subst hp; exact lf_lt _ _
  have hp0 := fun w' x vs (h1 : GS w') (h2 : GT w') (h3 : Pcs w' x vs tes) => mpath_in 32 (by decide) (by decide) x vs tes 0 w' h1 h2 h3 hB (by decide) (by decide)
  have hr0 : ∀ w' x vs, GS w' → GT w' → Pcs w' x vs tes → Calls Tryd.prog 25 #[.int .i64 32, x] w' fun e w'' => ∃ yo yc, e = .returned (.slice yo 32 yc) ∧ OB w' w'' yo yc rootB := fun w' x vs h1 h2 h3 => by
    have := mroot_in 32 (by decide) (by decide) x vs tes w' h1 h2 h3 hB (by decide)
    rw [← root_tests]
    exact this
  have hr1 : ∀ w' tb, Tk w' tb 32 [lf 32 []] → Calls Tryd.prog 40 #[.pointer (some ⟨tb, 0, none⟩), .int .i64 1] w' fun e w'' => ∃ yo yc, e = .returned (.tuple #[.slice yo 32 yc, .int .i64 0]) ∧ OB w' w'' yo yc leafB := fun w' tb h => by
    have := troot_in tb 32 (by decide) (by decide) _ 1 w' h (by decide)
    have e : mth (32 : Nat) (blk [lf 32 []] 0 1) = leafB := by
      have : blk [lf 32 []] 0 1 = [lf 32 []] := rfl
      rw [this, mth_one, leaf_nil]
    rw [← e]
    exact this
  have hlf : ∀ w', GS w' → Calls Tryd.prog 18 #[.int .i64 32, .slice none 0 0] w' fun e w'' => ∃ yo, e = .returned (.slice yo 32 32) ∧ OB w' w'' yo 32 (lf 32 []) := fun w' h => by
    have := leaf_any 32 (.slice none 0 0) [] w' h (sl_nil _) (by decide)
    have e : (lf 32 []).length = 32 := lf_len 32 (by decide) (by decide) _
    rw [e] at this
    exact this
  have hbl : (bes 32 (tes.map (lf 32)) 0 8 0 1).length = 3 := by rw [bes_len _ _ _ _ _ _ _ (Nat.le_refl _), dep_tests]
  have hck := chkP_tests
  have e8 : tes.length = 8 := rfl
  simp only [e8] at hp0
  have e0 : ((0 : Nat) : Int) = 0 := rfl
  have e32 : ((32 : Nat) : Int) = 32 := rfl
  simp only [e0, e32] at hp0
  generalize bes 32 (tes.map (lf 32)) 0 8 0 1 = BS at *
  have hrb : ∀ v ∈ rootB, v < 256 := by decide
  have hlb : ∀ v ∈ leafB, v < 256 := by decide
  have HG := hide (And.intro hg ht)
  have HC := hide (And.intro hnew (And.intro hadd (And.intro hp0 (And.intro hr0 (And.intro hr1 (And.intro hlf (And.intro hbl (And.intro hck (And.intro hrb hlb)))))))))
  clear hnew hadd hp0 hr0 hr1 hlf hbl hck hrb hlb hg ht hB e8 e0 e32
  go_enter Tryd.func10, Tryd.ntmps10
  go_wp2_with fail
  refine (tests_any w).mono ?_
  rintro e w1 ⟨g1, vs1, rfl, hP, hF⟩
  have F1 := hide hF
  have P1 := hide hP
  clear hF hP
  go_wp2_with fail
  refine ((unhide HC).2.2.1 _ _ _ ((unhide HG).1.fr0 (unhide F1)) ((unhide HG).2.fr0 (unhide F1)) (unhide P1)).mono ?_
  rintro e w2 ⟨ao, cp, us, rfl, hO⟩
  have hus : us.length = 3 := hO.len.trans (unhide HC).2.2.2.2.2.2.1
  rw [hus]
  have F2 := hide ((unhide F1).trans hO.own.fr (fun _ _ h => h))
  have P2 := hide ((unhide P1).fr0 hO.own.fr)
  have O2 := hide hO
  have HU := hide hus
  clear hO hus
  go_wp2_with fail
  refine ((unhide HC).1 _ ((unhide HG).1.fr0 (unhide F2))).mono ?_
  rintro e w3 ⟨tb, rfl, hT, hb1, hb2, hF⟩
  have T3 := hide (And.intro hT (And.intro hb1 hb2))
  have F23 := hide hF
  have F3 := hide ((unhide F2).trans hF (fun _ _ h => h))
  have P3 := hide ((unhide P2).fr0 hF)
  have O3 := hide ((unhide O2).fr0 hF)
  clear hT hb1 hb2 hF
  go_wp2_with fail
  refine ((unhide HC).2.1 _ _ _ ((unhide HG).1.fr0 (unhide F3)) ((unhide HG).2.fr0 (unhide F3)) (unhide T3).1 (unhide T3).2.1).mono ?_
  rintro e w4 ⟨rfl, hT, hF⟩
  have hF24 : Fr (fun _ => False) w2 w4 := (unhide F23).trans hF (fun k hk hO => by
    have h2 := (unhide T3).2.2
    rcases hO with rfl | ⟨o, e⟩ | ⟨v, hv, _⟩
    · omega
    · cases e
    · cases hv)
  have F4 := hide ((unhide F2).trans hF24 (fun _ _ h => h))
  have P4 := hide ((unhide P2).fr0 hF24)
  have O4 := hide ((unhide O2).fr0 hF24)
  have T4 := hide hT
  clear hT hF hF24 T3 F3
  go_wp2_with fail
  refine ((unhide HC).2.2.2.2.1 _ _ (unhide T4)).mono ?_
  rintro e w5 ⟨lo, lc, rfl, hO⟩
  have F5 := hide ((unhide F4).trans hO.fr (fun _ _ h => h))
  have P5 := hide ((unhide P4).fr0 hO.fr)
  have O5 := hide ((unhide O4).fr0 hO.fr)
  have L5 := hide (hO.sl (unhide HC).2.2.2.2.2.2.2.2.2)
  clear hO
  go_wp2_with fail
  refine ((unhide HC).2.2.2.1 _ _ _ ((unhide HG).1.fr0 (unhide F5)) ((unhide HG).2.fr0 (unhide F5)) (unhide P5)).mono ?_
  rintro e w6 ⟨ro, rc, rfl, hO⟩
  have F6 := hide ((unhide F5).trans hO.fr (fun _ _ h => h))
  have O6 := hide ((unhide O5).fr0 hO.fr)
  have L6 := hide ((unhide L5).fr0 hO.fr)
  have R6 := hide (hO.sl (unhide HC).2.2.2.2.2.2.2.2.1)
  clear hO
  go_wp2_with fail
  refine (hex_lit ⟨#[53, 100, 99, 57, 100, 97, 55, 57, 97, 55, 48, 54, 53, 57, 97, 57, 97, 100, 53, 53, 57, 99, 98, 55, 48, 49, 100, 101, 100, 57, 97, 50, 97, 98, 57, 100, 56, 50, 51, 97, 97, 100, 50, 102, 52, 57, 54, 48, 99, 102, 101, 51, 55, 48, 101, 102, 102, 52, 54, 48, 52, 51, 50, 56]⟩ rootB _ (by decide) rootB_hex 32 rfl (by decide)).mono ?_
  rintro e w7 ⟨xo, xc, rfl, hS, hF⟩
  have F7 := hide ((unhide F6).trans hF (fun _ _ h => h))
  have O7 := hide ((unhide O6).fr0 hF)
  have L7 := hide ((unhide L6).fr0 hF)
  have R7 := hide (And.intro ((unhide R6).fr0 hF) hS)
  clear hS hF
  go_wp2_with fail
  refine (same_T (unhide R7).1.s (unhide R7).2.s (by decide) (sameB_refl _)).mono ?_
  rintro e w8 ⟨rfl, hF⟩
  have F8 := hide ((unhide F7).trans hF (fun _ _ h => h))
  have O8 := hide ((unhide O7).fr0 hF)
  have L8 := hide ((unhide L7).fr0 hF)
  clear hF R7 R6
  go_wp2_with fail
  refine ((unhide HC).2.2.2.2.2.1 _ ((unhide HG).1.fr0 (unhide F8))).mono ?_
  rintro e w9 ⟨fo, rfl, hO⟩
  have F9 := hide ((unhide F8).trans hO.fr (fun _ _ h => h))
  have O9 := hide ((unhide O8).fr0 hO.fr)
  have L9 := hide ((unhide L8).fr0 hO.fr)
  have hsl := hO.sl (lf_lt 32 [])
  have e32 : (lf 32 []).length = 32 := lf_len 32 (by decide) (by decide) _
  rw [e32] at hsl
  have K9 := hide hsl
  clear hO hsl e32
  go_wp2_with fail
  refine (hex_lit ⟨#[53, 100, 99, 57, 100, 97, 55, 57, 97, 55, 48, 54, 53, 57, 97, 57, 97, 100, 53, 53, 57, 99, 98, 55, 48, 49, 100, 101, 100, 57, 97, 50, 97, 98, 57, 100, 56, 50, 51, 97, 97, 100, 50, 102, 52, 57, 54, 48, 99, 102, 101, 51, 55, 48, 101, 102, 102, 52, 54, 48, 52, 51, 50, 56]⟩ rootB _ (by decide) rootB_hex 32 rfl (by decide)).mono ?_
  rintro e w10 ⟨yo, yc, rfl, hS, hF⟩
  have F10 := hide ((unhide F9).trans hF (fun _ _ h => h))
  have O10 := hide ((unhide O9).fr0 hF)
  have L10 := hide ((unhide L9).fr0 hF)
  have K10 := hide (And.intro ((unhide K9).fr0 hF) hS)
  clear hS hF
  have hpc := (unhide O10).pcs
  have hcp := (unhide O10).cap
  rw [unhide HU] at hpc hcp
  have PC := hide (And.intro hpc hcp)
  clear hpc hcp
  go_wp2_with fail
  refine (checkPath_any 32 0 8 _ _ _ _ _ us BS _ ((unhide HG).1.fr0 (unhide F10)) (unhide K10).1 (unhide K10).2 (unhide PC).1 (fun _ _ _ e => by cases e; exact (unhide PC).2) (by decide) (by rw [(unhide HC).2.2.2.2.2.2.1]; decide)).mono ?_
  rintro e w11 ⟨rfl, hF⟩
  rw [(unhide HC).2.2.2.2.2.2.2.1]
  have F11 := hide ((unhide F10).trans hF (fun _ _ h => h))
  have L11 := hide ((unhide L10).fr0 hF)
  clear hF
  go_wp2_with fail
  refine (hex_lit ⟨#[54, 101, 51, 52, 48, 98, 57, 99, 102, 102, 98, 51, 55, 97, 57, 56, 57, 99, 97, 53, 52, 52, 101, 54, 98, 98, 55, 56, 48, 97, 50, 99, 55, 56, 57, 48, 49, 100, 51, 102, 98, 51, 51, 55, 51, 56, 55, 54, 56, 53, 49, 49, 97, 51, 48, 54, 49, 55, 97, 102, 97, 48, 49, 100]⟩ leafB _ (by decide) leafB_hex 32 rfl (by decide)).mono ?_
  rintro e w12 ⟨zo, zc, rfl, hS, hF⟩
  have F12 := hide ((unhide F11).trans hF (fun _ _ h => h))
  have L12 := hide (And.intro ((unhide L11).fr0 hF) hS)
  clear hS hF
  go_wp2_with fail
  refine (same_T (unhide L12).1.s (unhide L12).2.s (by decide) (sameB_refl _)).mono ?_
  rintro e w13 ⟨rfl, hF⟩
  have F13 := hide ((unhide F12).trans hF (fun _ _ h => h))
  clear hF
  go_wp2_with fail
  go_ret
  exact ⟨rfl, unhide F13⟩
end Go.Proofs.YthamfidjilclpaaDoor

namespace Go.Proofs.YthamfidjilclpaaDoor
open Go.RowKit

theorem OL.stepH {w wr w1 : World} {ao : Option Addr} {cp : Nat} {vs : List Value} {ps : List (List Nat)} (h : OL w wr ao cp vs ps) (l : List Nat) (yo : Option Addr) (yc : Nat) (hO : OB wr w1 yo yc l) (hb : ∀ v ∈ l, v < 256) (hn : vs.length < 16000000) :
    ∃ ao' cp' w2, (Builtin.append_ #[22, 22] 22 #[.slice ao vs.length cp, .slice (some ⟨w1.heap.size, 0, none⟩) 1 1]).run Tryd.prog (w1.alloc (.cells #[.slice yo l.length yc] 26)) = .ok (.slice ao' (vs.length + 1) cp') w2 ∧ OL w w2 ao' cp' (vs ++ [.slice yo l.length yc]) (ps ++ [l]) ∧
      (w1.alloc (.cells #[.slice yo l.length yc] 26)).grownBy w2 (Value.slice ao vs.length cp).ownBlock ∧ ((Value.slice ao' (vs.length + 1) cp').ownBlock = (Value.slice ao vs.length cp).ownBlock ∨ (Value.slice ao' (vs.length + 1) cp').ownBlock = some (w1.heap.size + 1)) := by
  obtain ⟨ao', cp', w2, hr, hOL⟩ := h.step l yo yc hO hb hn
  have hown : (w1.alloc (.cells #[.slice yo l.length yc] 26)).ownsRow w.heap.size 26 1 (.slice ao vs.length cp) vs.length vs := (h.fr0 (hO.fr.alloc _)).own.own
  obtain ⟨a2, c2, w3, hr2, _, hg, hat⟩ := run_app_ss (w1.alloc (.cells #[.slice yo l.length yc] 26)) w.heap.size vs.length _ (.slice (some ⟨w1.heap.size, 0, none⟩) 1 1) vs [.slice yo l.length yc] hown ⟨.inr (.inr ⟨w1.heap.size, 0, 1, rfl, fun j u hu => by
    rw [World.cell?_alloc_at _ _ _ _ (by simp)]
    match j with
    | 0 => simpa using hu
    | j + 1 => simp at hu⟩), fun u hu => by simp at hu; subst hu; exact ⟨_, _, _, rfl⟩⟩ (by simp; omega) (by have := h.own.fr.size; have := hO.fr.size; simp; omega)
  rw [hr] at hr2
  injection hr2 with e1 e2
  subst e2
  injection e1 with e1 _ e3
  subst e1 e3
  refine ⟨ao', cp', w2, hr, hOL, hg, ?_⟩
  simpa using hat
/-- What guarded has made so far. -/
structure GI (w wr : World) (es qs : List (List Nat)) (so : Option Addr) (sc : Nat) (svs : List Value) (ao : Option Addr) (ac : Nat) (avs : List Value) : Prop where
  all : OL w wr ao ac avs qs
  sho : wr.ownsRow w.heap.size 26 1 (.slice so svs.length sc) svs.length svs
  sln : svs.length = avs.length
  ne : ∀ g, (Value.slice so svs.length sc).ownBlock = some g → (Value.slice ao avs.length ac).ownBlock = some g → False
  sls : ∀ u ∈ svs, ∃ a n c, u = .slice a n c
  pre : ∀ (j : Nat) v v' e, svs[j]? = some v → avs[j]? = some v' → es[j]? = some e → ∃ g c, v = .slice (some ⟨g, 0, none⟩) e.length c ∧ v' = .slice (some ⟨g, 0, none⟩) (e.length + 9) c
theorem GI.nil (w : World) (es : List (List Nat)) : GI w w es [] none 0 [] none 0 [] :=
  ⟨OL.nil w, ⟨rfl, .inl ⟨rfl, rfl⟩⟩, rfl, (fun g h => by cases h), (fun u h => by cases h), (fun j v v' e h => by simp at h)⟩
theorem GI.fr0 {w wr wq : World} {es qs : List (List Nat)} {so : Option Addr} {sc : Nat} {svs : List Value} {ao : Option Addr} {ac : Nat} {avs : List Value} (h : GI w wr es qs so sc svs ao ac avs) (hf : Fr (fun _ => False) wr wq) : GI w wq es qs so sc svs ao ac avs :=
  ⟨h.all.fr0 hf, ownsRow_of_block h.sho (fun g hg => hf.block g (h.sho.lt g hg).2 (fun h => h)), h.sln, h.ne, h.sls, h.pre⟩
/-- One list more. -/
theorem GI.step {w wr w1 : World} {es qs : List (List Nat)} {so : Option Addr} {sc : Nat} {svs : List Value} {ao : Option Addr} {ac : Nat} {avs : List Value} (h : GI w wr es qs so sc svs ao ac avs) (l : List Nat) (g lc n : Nat) (hO : OB wr w1 (some ⟨g, 0, none⟩) lc l) (hb : ∀ v ∈ l, v < 256) (hn : avs.length < 16000000)
    (hpre : ∀ e, es[svs.length]? = some e → n = e.length ∧ l.length = e.length + 9) (L : Nat) (hL : l.length = L) :
    ∃ ao' ac' w2, (Builtin.append_ #[22, 22] 22 #[.slice ao avs.length ac, .slice (some ⟨w1.heap.size, 0, none⟩) 1 1]).run Tryd.prog (w1.alloc (.cells #[.slice (some ⟨g, 0, none⟩) L lc] 26)) = .ok (.slice ao' (avs.length + 1) ac') w2 ∧ Fr (fun _ => False) w w2 ∧
      w2.cell? ⟨match ao' with | some a => a.block | none => 0, avs.length, none⟩ = some (.slice (some ⟨g, 0, none⟩) L lc) ∧ (∃ q, ao' = some ⟨q, 0, none⟩) ∧
      ∃ so' sc' w3, (Builtin.append_ #[22, 22] 22 #[.slice so svs.length sc, .slice (some ⟨w2.heap.size, 0, none⟩) 1 1]).run Tryd.prog (w2.alloc (.cells #[.slice (some ⟨g, 0, none⟩) n lc] 26)) = .ok (.slice so' (svs.length + 1) sc') w3 ∧
      GI w w3 es (qs ++ [l]) so' sc' (svs ++ [.slice (some ⟨g, 0, none⟩) n lc]) ao' ac' (avs ++ [.slice (some ⟨g, 0, none⟩) L lc]) := by
  subst hL
  obtain ⟨ao', ac', w2, hr, hOL, hg, hat⟩ := h.all.stepH l (some ⟨g, 0, none⟩) lc hO hb hn
  have hs1 := (h.fr0 (hO.fr.alloc (.cells #[.slice (some ⟨g, 0, none⟩) l.length lc] 26))).sho
  have hslt := h.sho.lt
  have hsz := hO.fr.size
  have hs2 : w2.ownsRow w.heap.size 26 1 (.slice so svs.length sc) svs.length svs := ownsRow_of_block hs1 (fun q hq => hg.block q (hs1.lt q hq).2 (fun e => h.ne q hq e.symm))
  have hs3 : (w2.alloc (.cells #[.slice (some ⟨g, 0, none⟩) n lc] 26)).ownsRow w.heap.size 26 1 (.slice so svs.length sc) svs.length svs := hs2.alloc _
  obtain ⟨so', sc', w3, hr3, hown3, hg3, hat3⟩ := run_app_ss _ w.heap.size svs.length _ (.slice (some ⟨w2.heap.size, 0, none⟩) 1 1) svs [.slice (some ⟨g, 0, none⟩) n lc] hs3 ⟨.inr (.inr ⟨w2.heap.size, 0, 1, rfl, fun j u hu => by
    rw [World.cell?_alloc_at _ _ _ _ (by simp)]
    match j with
    | 0 => simpa using hu
    | j + 1 => simp at hu⟩), fun u hu => by simp at hu; subst hu; exact ⟨_, _, _, rfl⟩⟩ (by have := h.sln; simp; omega) (by have := hOL.own.fr.size; simp; omega)
  have hlen1 : (avs ++ [Value.slice (some ⟨g, 0, none⟩) l.length lc]).length = avs.length + 1 := by simp
  have hne2 : ∀ q, (Value.slice so svs.length sc).ownBlock = some q → (Value.slice ao' (avs.length + 1) ac').ownBlock = some q → False := fun q h1 h2 => by
    rcases hat with e | e
    · rw [e] at h2; exact h.ne q h1 h2
    · rw [e] at h2
      have := (hslt q h1).2
      simp at h2
      omega
  have hF3 : Fr (fun k => (Value.slice so svs.length sc).ownBlock = some k) w2 w3 := ((Fr.refl _ _).alloc _).grown hg3 (fun q hq => .inl hq)
  have hOL3 : OL w w3 ao' ac' (avs ++ [.slice (some ⟨g, 0, none⟩) l.length lc]) (qs ++ [l]) := by
    refine ⟨⟨ownsRow_of_block hOL.own.own (fun q hq => hF3.block q (hOL.own.own.lt q hq).2 (fun e => hne2 q e (by rw [hlen1] at hq; exact hq))), ?_⟩, hOL.len, fun j v p hv hp => ?_, hOL.apart, hOL.byt⟩
    · exact hOL.own.fr.trans hF3 (fun k hk hk2 => by have := (hslt k hk2).1; omega)
    · obtain ⟨bo, c, e, hOw⟩ := hOL.row j v p hv hp
      exact ⟨bo, c, e, ownsRow_of_block hOw (fun q hq => hF3.block q (World.ownsRow.lt hOw q hq).2 (fun e => own_ne hs2 hOw q e hq))⟩
  obtain ⟨q, rfl⟩ : ∃ q, ao' = some ⟨q, 0, none⟩ := by
    rcases hOL.own.own.2 with ⟨_, e⟩ | ⟨q, cap, cur, e, _⟩
    · rw [hlen1] at e; omega
    · simp only [Value.slice.injEq] at e
      exact ⟨q, e.1⟩
  refine ⟨_, ac', w2, hr, hOL.own.fr, ?_, ⟨q, rfl⟩, so', sc', w3, by simpa using hr3, hOL3, by rw [List.length_append]; exact hown3, by rw [List.length_append, List.length_append, h.sln]; rfl, fun q' h1 h2 => ?_, fun u hu => ?_, fun j v v' e hv hv' he => ?_⟩
  · have := hOL.own.own.cellAt avs.length (by rw [hlen1]; omega)
    rw [this, List.getElem?_append_right (Nat.le_refl _), Nat.sub_self]
    rfl
  · rw [hlen1] at h2
    rw [List.length_append] at h1
    rcases hat3 with e | e
    · rw [show svs.length + [Value.slice (some ⟨g, 0, none⟩) n lc].length = svs.length + [Value.slice (some ⟨g, 0, none⟩) n lc].length from rfl, e] at h1
      exact hne2 q' h1 h2
    · rw [e] at h1
      have := (hOL.own.own.lt q' (by rw [hlen1]; exact h2)).2
      simp at h1
      omega
  · rcases List.mem_append.1 hu with hu | hu
    · exact h.sls u hu
    · simp at hu; subst hu; exact ⟨_, _, _, rfl⟩
  · by_cases hj : j < svs.length
    · rw [List.getElem?_append_left hj] at hv
      rw [List.getElem?_append_left (by rw [← h.sln]; exact hj)] at hv'
      exact h.pre j v v' e hv hv' he
    · have hje : j = svs.length := by
        have := (List.getElem?_eq_some_iff.1 hv).1
        rw [List.length_append, List.length_singleton] at this
        omega
      subst hje
      rw [List.getElem?_append_right (Nat.le_refl _), Nat.sub_self] at hv
      rw [List.getElem?_append_right (by rw [h.sln]; exact Nat.le_refl _), h.sln, Nat.sub_self] at hv'
      simp only [List.getElem?_cons_zero, Option.some.injEq] at hv hv'
      subst hv hv'
      obtain ⟨e1, e2⟩ := hpre e he
      exact ⟨g, lc, by rw [e1], by rw [e2]⟩
end Go.Proofs.YthamfidjilclpaaDoor

namespace Go.Proofs.YthamfidjilclpaaDoor
open Go.RowKit

/-- Bytes and k guards. -/
def gdj (e : List Nat) (k : Nat) : List Nat := e ++ List.replicate k 77
theorem gdj_len (e : List Nat) (k : Nat) : (gdj e k).length = e.length + k := by simp [gdj]
theorem gdj_succ (e : List Nat) (k : Nat) : gdj e k ++ [77] = gdj e (k + 1) := by simp [gdj, List.replicate_succ']
theorem gdj_lt {e : List Nat} (h : ∀ v ∈ e, v < 256) (k : Nat) : ∀ v ∈ gdj e k, v < 256 := fun v hv => by
  simp only [gdj, List.mem_append, List.mem_replicate] at hv
  rcases hv with h1 | h1
  · exact h v h1
  · omega
/-- What guarded makes: the lists with guards behind each, then guards. -/
def gls (es : List (List Nat)) : List (List Nat) := es.map (fun e => gdj e 9) ++ List.replicate 9 [7]
def glk (es : List (List Nat)) (t : Nat) : List (List Nat) := es.map (fun e => gdj e 9) ++ List.replicate t [7]
theorem glk_succ (es : List (List Nat)) (t : Nat) : glk es t ++ [[7]] = glk es (t + 1) := by simp [glk, List.replicate_succ']
set_option maxRecDepth 100000 in
set_option maxHeartbeats 1000000 in
theorem mguarded_any (x : Value) (vs : List Value) (es : List (List Nat)) (w : World) (hp : Pcs w x vs es) (hB : ∀ e ∈ es, e.length ≤ 4000000) (hn : es.length ≤ 8000000) :
    Calls Tryd.prog 23 #[x] w fun e w' => ∃ so sc svs ao ac avs, e = .returned (.tuple #[.slice so es.length sc, .slice ao (es.length + 9) ac]) ∧ svs.length = es.length + 9 ∧ GI w w' es (gls es) so sc svs ao ac avs := by
  obtain ⟨xo, xc, rfl⟩ := hp.form
  have HG := hide (And.intro hp (And.intro hB hn))
  clear hp hB hn
  generalize hN : es.length = N at *
  go_enter Tryd.func23, Tryd.ntmps23
  go_wp2_with fail
  go_loopw [4, 5, 6] (fun sv av iv wr => ∃ (k : Nat) (so : Option Addr) (sc : Nat) (svs : List Value) (ao : Option Addr) (ac : Nat) (avs : List Value), k ≤ N ∧ iv = .int .i64 (k : Nat) ∧ sv = .slice so k sc ∧ av = .slice ao k ac ∧ svs.length = k ∧ GI w wr es ((es.take k).map fun e => gdj e 9) so sc svs ao ac avs) (fun _ _ iv _ => N - (intOf iv).toNat)
  case atStart => exact ⟨0, none, 0, [], none, 0, [], Nat.zero_le _, rfl, rfl, rfl, rfl, GI.nil w es⟩
  case round =>
    obtain ⟨k, so, sc, svs, ao, ac, avs, hk, rfl, rfl, rfl, hsl, hI⟩ := hrel
    have hN8 := (unhide HG).2.2
    by_cases hlt : k < N
    · have hlt' : (k : Int) < (N : Int) := by omega
      have hke : k < es.length := by omega
      have hF := hI.all.own.fr
      obtain ⟨g, o, vo, vc, rfl, hcw, hSw⟩ := (unhide HG).1.nth (Fr.refl _ _) k hke
      have hcell := (hF.cell (p := ⟨g, o + k, none⟩) (lt_of_cell hcw) (fun h => h)).trans hcw
      have hS := hSw.fr0 hF
      have hgl : g < wr.heap.size := lt_of_cell hcell
      have hel := (unhide HG).2.1 es[k] (List.getElem_mem hke)
      have htk : (es.take (k + 1)).map (fun e => gdj e 9) = (es.take k).map (fun e => gdj e 9) ++ [gdj es[k] 9] := by
        rw [List.take_add_one, List.getElem?_eq_getElem hke, Option.toList_some, List.map_append]; rfl
      have hek : es[k]? = some es[k] := List.getElem?_eq_getElem hke
      generalize es[k] = e at *
      generalize hE : e.length = E at *
      obtain ⟨w1, hr1, ho1, hF1⟩ := make0 (E + 9) wr (by omega)
      have hO1 : OB wr w1 (some ⟨wr.heap.size, 0, none⟩) (E + 9) [] := ⟨ho1, hF1⟩
      have c1 := (hF1.cell (p := ⟨g, o + k, none⟩) hgl (fun h => h)).trans hcell
      obtain ⟨a2, c2, w2, hr2, hO2⟩ := hO1.app _ e (hS.s.fr0 hF1) (by rw [hE]; simp; omega)
      have hO2' : OB wr w2 a2 c2 (gdj e 0) := by simpa [gdj] using hO2
      have e2 : (([] : List Nat) ++ e).length = E := hE
      rw [e2] at hr2
      have HR1 := hide (show (Instr.makeSlice 26 (.int .i64 0) (.int .i64 ((E : Int) + 9))).run Tryd.prog wr = .ok (.slice (some ⟨wr.heap.size, 0, none⟩) 0 (E + 9)) w1 from hr1)
      have HR2 := hide hr2
      have HI := hide (And.intro hI (And.intro hO2' (And.intro htk (And.intro hek (And.intro hS (And.intro hcw hgl))))))
      clear hcw hSw hI hO2' htk hek hS hr1 hr2 ho1 hF1 hO1 hO2 e2 hF
      have r0 : IntKind.i64.wrap ((E : Int) + 9) = (E : Int) + 9 := by rw [IntKind.wrap_i64]; omega
      have hr1 := unhide HR1
      go_wp2_with (first | (at_builtin; refine wpList_app rfl (.tmp 23) (.tmp 27) 26 26 rfl _ _ _ rfl rfl (unhide HR2) ?_))
      clear hr1 c1 hcell
      go_loopw [7, 8] (fun lv jv wq => ∃ (t : Nat) (lo : Option Addr) (lc : Nat), t ≤ 9 ∧ jv = .int .i64 (t : Nat) ∧ lv = .slice lo (E + t) lc ∧ OB wr wq lo lc (gdj e t)) (fun _ jv _ => 9 - (intOf jv).toNat)
      case atStart => exact ⟨0, a2, c2, Nat.zero_le _, rfl, rfl, (unhide HI).2.1⟩
      case round =>
        obtain ⟨t, lo, lc, ht, rfl, rfl, hO⟩ := hrel
        rename World => wq
        by_cases hl9 : t < 9
        · have hl9' : (t : Int) < 9 := by omega
          have hlp : (gdj e t).length = E + t := by rw [gdj_len, hE]
          obtain ⟨a4, c4, w4, hr4, hO4⟩ := hO.app1 77 (by decide) (by rw [hlp]; omega)
          rw [List.length_append, hlp] at hr4
          rw [gdj_succ] at hO4
          have HR4 := hide hr4
          have HO4 := hide hO4
          clear hr4 hO4 hlp hO
          go_wp2_with (at_builtin; refine wpList_app rfl (.tmp 33) (.tmp 34) 26 26 rfl _ _ _ rfl rfl (unhide HR4) ?_)
          exact ⟨⟨t + 1, _, _, by omega, by go_num, rfl, unhide HO4⟩, by simp [intOf]; omega⟩
        · have hte : t = 9 := by omega
          subst hte
          have hl9' : ¬ (9 : Int) < 9 := by decide
          obtain ⟨hI, _, htk, hek, hS, hcell, hgl2⟩ := unhide HI
          obtain ⟨gg, rfl, hg1, hg2, hcap, _⟩ := hO.at_ (by rw [gdj_len]; omega)
          have hlp : (gdj e 9).length = E + 9 := by rw [gdj_len, hE]
          rw [hlp] at hcap
          have hal : avs.length = k := by rw [← hI.sln]; exact hsl
          obtain ⟨ao', ac', w5, hr5, hF5, hc5, ⟨qb, rfl⟩, so', sc', w6, hr6, hI6⟩ := hI.step (gdj e 9) gg lc E hO (gdj_lt hS.b 9) (by omega) (fun e' he' => by
            rw [hsl, hek] at he'
            cases he'
            exact ⟨hE.symm, by rw [hlp, hE]⟩) (E + 9) hlp
          rw [hal] at hr5
          rw [hsl] at hr6
          rw [← htk] at hI6
          have c5 : w5.cell? ⟨g, o + k, none⟩ = some (.slice vo E vc) := (hF5.cell (p := ⟨g, o + k, none⟩) (lt_of_cell hcell) (fun h => h)).trans hcell
          have HR5 := hide hr5
          have HR6 := hide hr6
          have H6 := hide (And.intro hI6 hsl)
          clear hr5 hr6 hI6 hI htk hek hS hcell hO hF5 hc5 hlp hal
          have hE9 : (E : Int) ≤ (lc : Int) := by omega
          go_wp2_with (first | (at_builtin; refine wpList_app rfl (.tmp 36) (.tmp 38) 22 22 rfl _ _ _ rfl rfl (unhide HR5) ?_) | (at_builtin; refine wpList_app rfl (.tmp 40) (.tmp 48) 22 22 rfl _ _ _ rfl rfl (unhide HR6) ?_))
          exact ⟨⟨k + 1, so', sc', _, _, ac', _, by omega, by go_num, rfl, rfl, by rw [List.length_append, (unhide H6).2]; rfl, (unhide H6).1⟩, by simp [intOf]; omega⟩
    · have hkN : k = N := by omega
      have hlt' : ¬ (k : Int) < (N : Int) := by omega
      have htk : es.take k = es := List.take_of_length_le (by omega)
      rw [htk] at hI
      have hI0 : GI w wr es (glk es 0) so sc svs ao ac avs := by simpa [glk] using hI
      have HI := hide (And.intro hI0 (And.intro hsl hkN))
      clear hI hI0 htk hkN hsl
      go_wp2_with fail
      go_loopw [4, 5, 9] (fun sv av jv wq => ∃ (t : Nat) (so : Option Addr) (sc : Nat) (svs : List Value) (ao : Option Addr) (ac : Nat) (avs : List Value), t ≤ 9 ∧ jv = .int .i64 (t : Nat) ∧ sv = .slice so (k + t) sc ∧ av = .slice ao (k + t) ac ∧ svs.length = k + t ∧ GI w wq es (glk es t) so sc svs ao ac avs) (fun _ _ jv _ => 9 - (intOf jv).toNat)
      case atStart => exact ⟨0, so, sc, svs, ao, ac, avs, Nat.zero_le _, rfl, rfl, rfl, (unhide HI).2.1, (unhide HI).1⟩
      case round =>
        obtain ⟨t, so, sc, svs, ao, ac, avs, ht, rfl, rfl, rfl, hsl, hI⟩ := hrel
        rename World => wq
        have hkN := (unhide HI).2.2
        by_cases hl9 : t < 9
        · have hl9' : (t : Int) < 9 := by omega
          have hal : avs.length = k + t := by rw [← hI.sln]; exact hsl
          obtain ⟨ao', ac', w5, hr5, hF5, hc5, ⟨qb, rfl⟩, so', sc', w6, hr6, hI6⟩ := hI.step [7] wq.heap.size 1 1 (ob_lit1 wq 7 (by decide)) (by decide) (by omega) (fun e' he' => by
            have := (List.getElem?_eq_some_iff.1 he').1
            omega) 1 rfl
          rw [hal] at hr5 hc5
          rw [hsl] at hr6
          rw [glk_succ] at hI6
          have e7 : ((7 : Nat) : Int) = 7 := rfl
          have hz : (wq.alloc (.cells #[.int .u8 7] 5)).heap.size = wq.heap.size + 1 := by simp
          simp only [e7, hz] at hr5
          clear e7 hz
          have HR5 := hide hr5
          have HR6 := hide hr6
          have H6 := hide (And.intro hI6 hsl)
          clear hr5 hr6 hI6 hI hF5 hal hsl hkN
          have r1 : IntKind.i64.wrap ((k : Int) + (t : Int) + 1 - 1) = (k : Int) + (t : Int) := by rw [IntKind.wrap_i64]; omega
          simp only at hc5
          go_wp2_with (first | (at_builtin; refine wpList_app rfl (.tmp 54) (.tmp 56) 22 22 rfl _ _ _ rfl rfl (unhide HR5) ?_) | (at_builtin; refine wpList_app rfl (.tmp 58) (.tmp 65) 22 22 rfl _ _ _ rfl rfl (unhide HR6) ?_))
          exact ⟨⟨t + 1, so', sc', _, _, ac', _, by omega, by go_num, rfl, rfl, by rw [List.length_append, (unhide H6).2]; rfl, (unhide H6).1⟩, by simp [intOf]; omega⟩
        · have hte : t = 9 := by omega
          subst hte
          have hl9' : ¬ (9 : Int) < 9 := by decide
          have hcp : k ≤ sc := by
            rcases hI.sho.2 with ⟨e, e2⟩ | ⟨g, cap, cur, e, _, _, h3, _⟩
            · omega
            · simp only [Value.slice.injEq, true_and] at e
              rw [e.2]; omega
          have hI' : GI w wq es (gls es) so sc svs ao ac avs := hI
          have H6 := hide (And.intro hI' (And.intro hsl hkN))
          clear hI hI' hsl hkN
          have hcp' : (k : Int) ≤ (sc : Int) := by omega
          go_wp2_with fail
          go_returns
          obtain ⟨h1, h2, h3⟩ := unhide H6
          subst h3
          exact ⟨so, sc, svs, ao, ac, rfl, h2, avs, h1⟩
end Go.Proofs.YthamfidjilclpaaDoor

namespace Go.Proofs.YthamfidjilclpaaDoor
open Go.RowKit

theorem gls_len (es : List (List Nat)) : (gls es).length = es.length + 9 := by simp [gls]
theorem gls_lo (es : List (List Nat)) (i : Nat) (h : i < es.length) : (gls es)[i]'(by rw [gls_len]; omega) = gdj es[i] 9 := by
  simp only [gls]
  rw [List.getElem_append_left (by simpa using h)]
  simp
theorem gls_hi (es : List (List Nat)) (i : Nat) (h : es.length ≤ i) (h2 : i < es.length + 9) : (gls es)[i]'(by rw [gls_len]; omega) = [7] := by
  simp only [gls]
  rw [List.getElem_append_right (by simpa using h), List.getElem_replicate]
theorem gdj_at (m : List Nat) (k j : Nat) (hj : j < m.length + k) : (gdj m k).getD j 0 = if j < m.length then m.getD j 0 else 77 := by
  rw [gdj, List.getD, List.getD]
  by_cases h : j < m.length
  · rw [if_pos h, List.getElem?_append_left h]
  · rw [if_neg h, List.getElem?_append_right (by omega), List.getElem?_replicate, if_pos (by omega)]; rfl
set_option maxRecDepth 100000 in
set_option maxHeartbeats 1000000 in
theorem mleft_any (x y z : Value) (vs us ts : List Value) (es : List (List Nat)) (w : World) (hx : Pcs w x vs es) (hy : Pcs w y us es) (hz : Pcs w z ts (gls es)) (hB : ∀ e ∈ es, e.length ≤ 4000000) (hn : es.length ≤ 8000000) :
    Calls Tryd.prog 26 #[x, y, z] w fun e w' => e = .returned (.bool true) ∧ Fr (fun _ => False) w w' := by
  obtain ⟨xo, xc, rfl⟩ := hx.form
  obtain ⟨yo, yc, rfl⟩ := hy.form
  obtain ⟨zo, zc, rfl⟩ := hz.form
  rw [gls_len] at hz ⊢
  have HG := hide (And.intro hx (And.intro hy (And.intro hz (And.intro hB hn))))
  clear hx hy hz hB hn
  generalize hN : es.length = N at *
  go_enter Tryd.func26, Tryd.ntmps26
  go_wp2_with fail
  go_loopw [7] (fun iv wr => ∃ (i q : Nat), i ≤ N + 9 ∧ iv = .int .i64 (i : Nat) ∧ wr = w.drewN q) (fun iv _ => N + 9 - (intOf iv).toNat)
  case atStart => exact ⟨0, 0, Nat.zero_le _, rfl, rfl⟩
  case round =>
    obtain ⟨i, q, hi, rfl, rfl⟩ := hrel
    have hN8 := (unhide HG).2.2.2.2
    by_cases hlt : i < N + 9
    · have hlt' : (i : Int) < (N : Int) + 9 := by omega
      obtain ⟨gz, oz, ao, ac, rfl, cz, sz⟩ := (unhide HG).2.2.1.nth (Fr.refl _ _) i (by rw [gls_len, hN]; exact hlt)
      by_cases hiN : i < N
      · have hiN' : ¬ (N : Int) ≤ (i : Int) := by omega
        have hiN2 : ¬ N ≤ i := by omega
        have hie : i < es.length := by omega
        obtain ⟨gx, ox, bo, bc, rfl, cx, sx⟩ := (unhide HG).1.nth (Fr.refl _ _) i hie
        obtain ⟨gy, oy, so, sc, rfl, cy, -⟩ := (unhide HG).2.1.nth (Fr.refl _ _) i hie
        rw [gls_lo es i hie] at cz sz
        rw [gdj_len] at cz sz
        have hel := (unhide HG).2.2.2.1 es[i] (List.getElem_mem hie)
        generalize es[i] = e at *
        have HS := hide (And.intro sz sx)
        clear sz sx
        generalize hE : e.length = E at *
        have hiN3 : (i : Int) < (N : Int) := by omega
        go_wp2_with fail
        go_quiet (fail)
        go_wp2_with fail
        go_loopw [8] (fun jv wq => ∃ (j p : Nat), j ≤ E + 9 ∧ jv = .int .i64 (j : Nat) ∧ wq = w.drewN p) (fun jv _ => E + 9 - (intOf jv).toNat)
        case atStart => exact ⟨0, q + nq, Nat.zero_le _, rfl, by rw [World.drewN_drewN]⟩
        case round =>
          obtain ⟨j, p, hj, rfl, rfl⟩ := hrel
          by_cases hjl : j < E + 9
          · have hjl' : (j : Int) < (E : Int) + 9 := by omega
            obtain ⟨g1, o1, rfl, b1⟩ := src_cell (unhide HS).1.s j (by rw [gdj_len, hE]; exact hjl) (unhide HS).1.b
            rw [gdj_at e 9 j (by rw [hE]; exact hjl), hE] at b1
            by_cases hjE : j < E
            · rw [if_pos hjE] at b1
              obtain ⟨g2, o2, rfl, b2⟩ := src_cell (unhide HS).2.s j (by rw [hE]; exact hjE) (unhide HS).2.b
              have hjE' : (j : Int) < (E : Int) := by omega
              have hjE2 : ¬ (E : Int) ≤ (j : Int) := by omega
              have hjE3 : ¬ E ≤ j := by omega
              generalize e.getD j 0 = v at *
              go_wp2_with fail
              go_quiet (fail)
              go_wp2_with fail
              exact ⟨⟨j + 1, p + nq, by omega, by go_num, rfl⟩, by simp [intOf]; omega⟩
            · rw [if_neg hjE] at b1
              have hjE' : ¬ (j : Int) < (E : Int) := by omega
              have hjE2 : (E : Int) ≤ (j : Int) := by omega
              go_wp2_with fail
              go_quiet (fail)
              go_wp2_with fail
              exact ⟨⟨j + 1, p + nq, by omega, by go_num, rfl⟩, by simp [intOf]; omega⟩
          · have hjl' : ¬ (j : Int) < (E : Int) + 9 := by omega
            go_wp2_with fail
            exact ⟨⟨i + 1, p, by omega, by go_num, rfl⟩, by simp [intOf]; omega⟩
      · have hiN' : (N : Int) ≤ (i : Int) := by omega
        rw [gls_hi es i (by omega) (by omega)] at cz sz
        obtain ⟨g1, o1, rfl, b1⟩ := src_cell sz.s 0 (by decide) sz.b
        have b2 : w.cell? ⟨g1, o1, none⟩ = some (.int .u8 7) := b1
        clear b1 sz
        simp only [List.length_singleton] at cz
        go_wp2_with fail
        exact ⟨⟨i + 1, q, by omega, by go_num, rfl⟩, by simp [intOf]; omega⟩
    · have hlt' : ¬ (i : Int) < (N : Int) + 9 := by omega
      go_wp2_with fail
      go_ret
      exact ⟨rfl, (Fr.refl _ _).drewN q⟩
end Go.Proofs.YthamfidjilclpaaDoor

namespace Go.Proofs.YthamfidjilclpaaDoor
open Go.RowKit

theorem GI.pcsA {w wr : World} {es qs : List (List Nat)} {so : Option Addr} {sc : Nat} {svs : List Value} {ao : Option Addr} {ac : Nat} {avs : List Value} (h : GI w wr es qs so sc svs ao ac avs) : Pcs wr (.slice ao avs.length ac) avs qs := h.all.pcs
theorem GI.pcsS {w wr : World} {es : List (List Nat)} {so : Option Addr} {sc : Nat} {svs : List Value} {ao : Option Addr} {ac : Nat} {avs : List Value} (h : GI w wr es (gls es) so sc svs ao ac avs) (hl : svs.length = es.length + 9) (hb : ∀ e ∈ es, ∀ v ∈ e, v < 256) : Pcs wr (.slice so es.length sc) (svs.take es.length) es ∧ Cp (.slice so es.length sc) := by
  have hal : avs.length = es.length + 9 := by rw [← h.sln]; exact hl
  obtain ⟨gs, rfl⟩ : ∃ g, so = some ⟨g, 0, none⟩ := by
    rcases h.sho.2 with ⟨_, e⟩ | ⟨g, cap, cur, e, _⟩
    · omega
    · simp only [Value.slice.injEq] at e
      exact ⟨g, e.1⟩
  have hsc : svs.length ≤ sc := by
    rcases h.sho.2 with ⟨e, _⟩ | ⟨g, cap, cur, e, _, _, h3, _⟩
    · simp at e
    · simp only [Value.slice.injEq, true_and] at e
      rw [e.2]; exact h3
  have hlt := (h.sho.lt gs rfl).2
  have htl : (svs.take es.length).length = es.length := by rw [List.length_take]; omega
  refine ⟨⟨htl, .inr (.inr ⟨gs, 0, sc, by rw [htl], hlt, fun j v hv => ?_⟩), fun j v p hv hp => ?_, hb⟩, fun _ _ _ e => by cases e; omega⟩
  · rw [List.getElem?_take] at hv
    split at hv
    · rename_i hj
      rw [Nat.zero_add, h.sho.cellAt j (by omega)]; exact hv
    · cases hv
  · rw [List.getElem?_take] at hv
    split at hv
    · rename_i hj
      have hpe : es[j] = p := by
        rw [List.getElem?_eq_getElem hj] at hp
        exact Option.some.inj hp
      have hv' : avs[j]? = some (avs[j]'(by omega)) := List.getElem?_eq_getElem _
      obtain ⟨g, c, e1, e2⟩ := h.pre j v _ p hv hv' hp
      obtain ⟨bo, c', e3, hO⟩ := h.all.row j _ _ hv' (List.getElem?_eq_getElem (l := gls es) (by rw [gls_len]; omega))
      rw [gls_lo es j hj, hpe] at e3 hO
      rw [e2] at e3
      simp only [Value.slice.injEq] at e3
      obtain ⟨rfl, _, rfl⟩ := e3
      have hbp : ∀ v ∈ gdj p 9, v < 256 := gdj_lt (hb p (List.mem_of_getElem? hp)) 9
      have hs := hO.part 0 p.length (by rw [gdj_len]; omega) hbp
      have ee : ((gdj p 9).drop 0).take p.length = p := by rw [List.drop_zero, gdj, List.take_left]
      rw [ee, Nat.sub_zero] at hs
      rw [e1]
      exact ⟨hs.s, hs.cap, hs.lt⟩
    · cases hv
/-- The root, whatever the width. -/
def mr (j : Int) (es : List (List Nat)) : List Nat := if 1 ≤ j ∧ j ≤ 32 then mth j (es.map (lf j)) else []
theorem mr_lt (j : Int) (es : List (List Nat)) : ∀ v ∈ mr j es, v < 256 := by
  unfold mr
  split
  · exact mth_lt _ _ _ (Nat.le_refl _) (fun p hp => by
      obtain ⟨e, _, rfl⟩ := List.mem_map.1 hp
      exact lf_lt _ _)
  · intro v h; cases h
theorem mr_len (j : Int) (es : List (List Nat)) : (mr j es).length ≤ 32 := by
  unfold mr
  split
  · rename_i h
    obtain ⟨wi, rfl⟩ : ∃ k : Nat, j = (k : Int) := ⟨j.toNat, by omega⟩
    rw [mth_wid wi (by omega) (by omega) _ (map_lf_len wi (by omega) (by omega) es)]; omega
  · exact Nat.zero_le _
theorem mrootU (j : Int) (x : Value) (us : List Value) (es : List (List Nat)) (w : World) (hg : GS w) (ht : GT w) (hp : Pcs w x us es) (hB : ∀ e ∈ es, e.length ≤ 16000000) (hn : es.length ≤ 8000000) :
    Calls Tryd.prog 25 #[.int .i64 j, x] w fun e w' => ∃ yo yc, e = .returned (.slice yo (mr j es).length yc) ∧ OB w w' yo yc (mr j es) := by
  by_cases h : 1 ≤ j ∧ j ≤ 32
  · obtain ⟨wi, rfl⟩ : ∃ k : Nat, j = (k : Int) := ⟨j.toNat, by omega⟩
    have := mroot_in wi (by omega) (by omega) x us es w hg ht hp hB hn
    have hm := mth_wid wi (by omega) (by omega) _ (map_lf_len wi (by omega) (by omega) es)
    rw [mr, if_pos h, hm]
    exact this
  · refine (mroot_out j (by omega) x us es w hp hn).mono ?_
    rintro e w' ⟨rfl, hF⟩
    rw [mr, if_neg h]
    exact ⟨none, 0, rfl, own_nil _ _, hF⟩
set_option maxRecDepth 100000 in
theorem groot_out (i : Int) (x : Value) (w : World) (h : i < 1 ∨ 32 < i) : Calls Tryd.prog 24 #[.int .i64 i, x] w fun e w' => e = .returned (.slice none 0 0) ∧ w' = w := by
  go_enter Tryd.func24, Tryd.ntmps24
  go_wp2_with fail
  refine (may_no i w h).mono ?_
  rintro e w0 ⟨rfl, rfl⟩
  go_wp2_with fail
  go_ret
  exact ⟨rfl, rfl⟩
theorem grootU (j : Int) (x : Value) (vs : List Value) (es : List (List Nat)) (w : World) (hr : GR w) (hp : Pcs w x vs es) (hB : ∀ e ∈ es, e.length ≤ 4000000) (hn : es.length ≤ 8000000) :
    Calls Tryd.prog 24 #[.int .i64 j, x] w fun e w' => ∃ yo yc, e = .returned (.slice yo (mr j es).length yc) ∧ Sl w' (.slice yo (mr j es).length yc) (mr j es) ∧ Fr (fun _ => False) w w' := by
  by_cases h : 1 ≤ j ∧ j ≤ 32
  · rw [mr, if_pos h]
    exact groot_any j x vs es w hr hp hB hn h.1 h.2
  · refine (groot_out j x w (by omega)).mono ?_
    rintro e w' ⟨rfl, rfl⟩
    rw [mr, if_neg h]
    exact ⟨none, 0, rfl, sl_nil _, Fr.refl _ _⟩
theorem OB.ptr {w wr : World} {xo : Option Addr} {cp : Nat} {l : List Nat} (h : OB w wr xo cp l) : l = [] ∨ ∃ g, xo = some ⟨g, 0, none⟩ ∧ w.heap.size ≤ g ∧ g < wr.heap.size := by
  rcases h.own.2 with ⟨e, e2⟩ | ⟨g, cap, cur, e, _⟩
  · exact .inl (List.length_eq_zero_iff.1 e2)
  · simp only [Value.slice.injEq] at e
    obtain ⟨rfl, _⟩ := e
    exact .inr ⟨g, rfl, h.own.lt g rfl⟩
end Go.Proofs.YthamfidjilclpaaDoor

namespace Go.Proofs.YthamfidjilclpaaDoor
open Go.RowKit

set_option maxRecDepth 100000 in
set_option maxHeartbeats 2000000 in
theorem roots_any (j : Int) (x lv rv : Value) (vs : List Value) (es : List (List Nat)) (la ra : List Nat) (w : World) (hg : GS w) (hr : GR w) (ht : GT w) (hp : Pcs w x vs es) (hl : Sl w lv la) (hv : Sl w rv ra) (hB : ∀ e ∈ es, e.length ≤ 4000000) (hn : es.length ≤ 8000000) (hla : la.length ≤ 4000000) (hra : ra.length ≤ 4000000) :
    Calls Tryd.prog 4 #[.int .i64 j, x, lv, rv] w fun e w' => e = .returned (.bool true) ∧ Fr (fun _ => False) w w' := by
  obtain ⟨xo, xc, rfl⟩ := hp.form
  obtain ⟨lo, lc, rfl⟩ := hl.form
  obtain ⟨ro, rc, rfl⟩ := hv.form
  have hB16 : ∀ e ∈ es, e.length ≤ 16000000 := fun e he => by have := hB e he; omega
  have HG := hide (And.intro hg (And.intro hr (And.intro ht (And.intro hp (And.intro hl (And.intro hv (And.intro hB (And.intro hB16 (And.intro hn (And.intro hla hra))))))))))
  have hgd := mguarded_any _ vs es w hp hB hn
  have hgr : ∀ w', Fr (fun _ => False) w w' → _ := fun w' hf => grootU j _ vs es w' (hr.fr0 hf) (hp.fr0 hf) hB hn
  have hrt : ∀ w' so sc us, Fr (fun _ => False) w w' → Pcs w' (.slice so es.length sc) us es → _ := fun w' so sc us hf hp' => mrootU j _ us es w' (hg.fr0 hf) (ht.fr0 hf) hp' hB16 hn
  have hlf : ∀ w' so sc ao ac us ts, Fr (fun _ => False) w w' → Pcs w' (.slice so es.length sc) us es → Pcs w' (.slice ao (es.length + 9) ac) ts (gls es) → _ := fun w' so sc ao ac us ts hf h1 h2 => mleft_any _ _ _ vs us ts es w' (hp.fr0 hf) h1 h2 hB hn
  have hbyt := hp.byt
  have hm32 := mr_len j es
  have hmb := mr_lt j es
  have hsm : sameB (mr j es) (mr j es) = true := sameB_refl _
  generalize mr j es = M at *
  have HC := hide (And.intro hgd (And.intro hgr (And.intro hrt (And.intro hlf (And.intro hbyt (And.intro hm32 (And.intro hmb hsm)))))))
  clear hg hr ht hp hl hv hB hB16 hn hla hra hgd hgr hrt hlf hbyt hm32 hmb hsm
  generalize hN : es.length = N at *
  generalize hLL : la.length = LL at *
  generalize hRL : ra.length = RL at *
  generalize hML : M.length = ML at *
  go_enter Tryd.func4, Tryd.ntmps4
  go_wp2_with fail
  refine (unhide HC).1.mono ?_
  rintro e w1 ⟨so, sc, svs, ao, ac, avs, rfl, hsl, hI⟩
  have h1 := hI.pcsS (by rw [hsl, hN]) (unhide HC).2.2.2.2.1
  have h2 := hI.pcsA
  have hal : avs.length = N + 9 := by rw [← hI.sln]; exact hsl
  rw [hal] at h2
  rw [hN] at h1
  have H1 := hide (And.intro hI.all.own.fr (And.intro h1.1 h2))
  clear hI h1 h2 hsl hal
  go_wp2_with fail
  refine ((unhide HC).2.1 w1 (unhide H1).1).mono ?_
  rintro e w2 ⟨yo, yc, rfl, hS, hF⟩
  have H2 := hide (And.intro ((unhide H1).1.trans hF (fun _ _ h => h)) (And.intro ((unhide H1).2.1.fr0 hF) (And.intro ((unhide H1).2.2.fr0 hF) hS)))
  clear hS hF
  go_wp2_with fail
  refine ((unhide HC).2.2.1 w2 so sc _ (unhide H2).1 (unhide H2).2.1).mono ?_
  rintro e w3 ⟨po, pc, rfl, hO⟩
  have H3 := hide (And.intro hO hO.fr)
  clear hO
  go_wp2_with fail
  refine ((unhide HC).2.2.1 w3 so sc _ ((unhide H2).1.trans (unhide H3).2 (fun _ _ h => h)) ((unhide H2).2.1.fr0 (unhide H3).2)).mono ?_
  rintro e w4 ⟨qo, qc, rfl, hO⟩
  have H4 := hide (And.intro hO ((unhide H3).2.trans hO.fr (fun _ _ h => h)))
  have A4 := hide ((unhide H3).1.ow.fr0 hO.fr)
  clear hO
  go_wp2_with fail
  have hsa := (unhide A4).src
  have hsb := (unhide H4).1.src
  rw [hML] at hsa hsb
  refine (same_T hsa ((unhide H2).2.2.2.fr0 (unhide H4).2).s (by rw [hML]; have := (unhide HC).2.2.2.2.2.1; omega) (unhide HC).2.2.2.2.2.2.2).mono ?_
  rintro e w5 ⟨rfl, hF⟩
  have H5 := hide hF
  have S5 := hide (hsb.fr0 hF)
  clear hF hsa hsb
  go_wp2_with fail
  refine (same_T (unhide S5) (((unhide H2).2.2.2.fr0 (unhide H4).2).s.fr0 (unhide H5)) (by rw [hML]; have := (unhide HC).2.2.2.2.2.1; omega) (unhide HC).2.2.2.2.2.2.2).mono ?_
  rintro e w6 ⟨rfl, hF⟩
  have H6 := hide (((unhide H4).2.trans (unhide H5) (fun _ _ h => h)).trans hF (fun _ _ h => h))
  have B6 := hide (((unhide H4).1.ow.fr0 (unhide H5)).fr0 hF)
  have A6 := hide (((unhide A4).fr0 (unhide H5)).fr0 hF)
  clear hF
  go_wp2_with fail
  refine ((unhide HC).2.2.2.1 w6 so sc ao ac _ avs ((unhide H2).1.trans (unhide H6) (fun _ _ h => h)) ((unhide H2).2.1.fr0 (unhide H6)) ((unhide H2).2.2.1.fr0 (unhide H6))).mono ?_
  rintro e w7 ⟨rfl, hF⟩
  have H7 := hide ((unhide H6).trans hF (fun _ _ h => h))
  have B7 := hide ((unhide B6).fr0 hF)
  have A7 := hide ((unhide A6).fr0 hF)
  clear hF
  go_wp2_with fail
  go_loopw [14] (fun iv wr => ∃ (k : Nat) (l : List Nat), k ≤ ML ∧ iv = .int .i64 (k : Nat) ∧ l.length = ML ∧ (∀ v ∈ l, v < 256) ∧ Ow wr w2.heap.size po pc l ∧ Fr (fun _ => False) w2 wr ∧ Ow wr w3.heap.size qo qc M) (fun iv _ => ML - (intOf iv).toNat)
  case atStart => exact ⟨0, M, Nat.zero_le _, rfl, hML, (unhide HC).2.2.2.2.2.2.1, unhide A7, unhide H7, unhide B7⟩
  case round =>
    obtain ⟨k, l, hk, rfl, hll, hlb, hA, hFr, hBq⟩ := hrel
    by_cases hlt : k < ML
    · have hlt' : (k : Int) < (ML : Int) := by omega
      obtain ⟨g, rfl⟩ : ∃ g, po = some ⟨g, 0, none⟩ := by
        rcases hA.2 with ⟨_, e⟩ | ⟨g, cap, cur, e, _⟩
        · omega
        · simp only [Value.slice.injEq] at e
          exact ⟨g, e.1⟩
      have hgl := (unhide H3).1.own.lt g rfl
      have hcell := hA.cell k (by omega) hlb
      have hfz := hA.fz k
      have hA2 := hA.set k 99 (by decide)
      have hB2 : Ow (wr.setCell ⟨g, k, none⟩ (.int .u8 ((99 : Nat) : Int))) w3.heap.size qo qc M := ownsRow_setCell_below hBq hgl.2 _
      have hF2 := hFr.setCell (p := ⟨g, k, none⟩) (.inr hgl.1) (.int .u8 ((99 : Nat) : Int))
      have hl2 : (l.set k 99).length = ML := by rw [List.length_set]; exact hll
      have HN := hide (And.intro hA2 (And.intro hB2 (And.intro hF2 (And.intro hl2 (set_lt l k 99 (by decide) hlb)))))
      clear hl2
      clear hA2 hB2 hF2 hA hBq hFr hll hlb hgl
      have w14 : IntKind.i64.wrap ((k : Int) + 1) = (k : Int) + 1 := by rw [IntKind.wrap_i64]; have := (unhide HC).2.2.2.2.2.1; omega
      go_wp2_with fail
      exact ⟨⟨k + 1, l.set k 99, by omega, by go_num, (unhide HN).2.2.2.1, (unhide HN).2.2.2.2, (unhide HN).1, (unhide HN).2.2.1, (unhide HN).2.1⟩, by simp [intOf]; omega⟩
    · have hlt' : ¬ (k : Int) < (ML : Int) := by omega
      have H8 := hide (And.intro hFr hBq)
      clear hFr hBq hA hlb hll
      have hsb := (unhide H8).2.src
      rw [hML] at hsb
      go_wp2_with fail
      refine (same_T hsb ((unhide H2).2.2.2.fr0 (unhide H8).1).s (by rw [hML]; have := (unhide HC).2.2.2.2.2.1; omega) (unhide HC).2.2.2.2.2.2.2).mono ?_
      rintro e w9 ⟨rfl, hF⟩
      have H9 := hide ((unhide H8).1.trans hF (fun _ _ h => h))
      clear hF hsb
      go_wp2_with fail
      refine ((unhide HC).2.2.1 w9 so sc _ ((unhide H2).1.trans (unhide H9) (fun _ _ h => h)) ((unhide H2).2.1.fr0 (unhide H9))).mono ?_
      rintro e w10 ⟨to, tc, rfl, hO⟩
      have H10 := hide ((unhide H9).trans hO.fr (fun _ _ h => h))
      have hst := hO.src
      rw [hML] at hst
      clear hO
      go_wp2_with fail
      refine (same_T hst ((unhide H2).2.2.2.fr0 (unhide H10)).s (by rw [hML]; have := (unhide HC).2.2.2.2.2.1; omega) (unhide HC).2.2.2.2.2.2.2).mono ?_
      rintro e w11 ⟨rfl, hF⟩
      have H11 := hide ((unhide H10).trans hF (fun _ _ h => h))
      clear hF hst
      go_wp2_with fail
      refine ((unhide HC).2.2.2.1 w11 so sc ao ac _ avs ((unhide H2).1.trans (unhide H11) (fun _ _ h => h)) ((unhide H2).2.1.fr0 (unhide H11)) ((unhide H2).2.2.1.fr0 (unhide H11))).mono ?_
      rintro e w12 ⟨rfl, hF⟩
      have H12 := hide ((unhide H2).1.trans ((unhide H11).trans hF (fun _ _ h => h)) (fun _ _ h => h))
      clear hF
      obtain ⟨hg, hr, ht, hp, hl, hv, -, -, -, hla, hra⟩ := unhide HG
      have hnode := fun (w' : World) (hf : Fr (fun _ => False) w w') => node_any j _ _ la ra w' (hg.fr0 hf) (hl.fr0 hf) (hv.fr0 hf) (by omega) (by omega)
      have hleaf := fun (w' : World) (hf : Fr (fun _ => False) w w') => leaf_any j _ la w' (hg.fr0 hf) (hl.fr0 hf) (by omega)
      have hgn := fun (w' : World) (hf : Fr (fun _ => False) w w') => gnode_any j _ _ la ra w' (hr.fr0 hf) (hl.fr0 hf).s (hv.fr0 hf).s hl.b hv.b (by omega) (by omega)
      have hgf := fun (w' : World) (hf : Fr (fun _ => False) w w') => gleaf_any j _ la w' (hr.fr0 hf) (hl.fr0 hf).s hl.b (by omega)
      have hlv := fun (w' : World) (hf : Fr (fun _ => False) w w') => mlives_any w' (hg.fr0 hf) (ht.fr0 hf)
      have hn32 := sm32 j (1 :: (la ++ ra))
      have hf32 := sm32 j (0 :: la)
      have hn0 : ¬ (1 ≤ j ∧ j ≤ 32) → nd j la ra = [] := fun h => by rw [nd, sm, if_neg h]
      have hf0 : ¬ (1 ≤ j ∧ j ≤ 32) → lf j la = [] := fun h => by rw [lf, sm, if_neg h]
      have en : sm j (1 :: (la ++ ra)) = nd j la ra := rfl
      have ef : sm j (0 :: la) = lf j la := rfl
      rw [en] at hn32
      rw [ef] at hf32
      clear en ef
      have hsn : sameB (nd j la ra) (nd j la ra) = true := sameB_refl _
      have hsf : sameB (lf j la) (lf j la) = true := sameB_refl _
      generalize nd j la ra = ND at *
      generalize lf j la = LF at *
      have HE := hide (And.intro hnode (And.intro hleaf (And.intro hgn (And.intro hgf (And.intro hlv (And.intro hn32 (And.intro hf32 (And.intro hsn hsf))))))))
      clear hnode hleaf hgn hgf hlv hn32 hf32 hsn hsf hg hr ht hp hl hv hla hra
      by_cases hj : 1 ≤ j ∧ j ≤ 32
      · have HJ := hide hj
        clear hn0 hf0 hj
        go_wp2_with fail
        refine ((unhide HE).1 w12 (unhide H12)).mono ?_
        rintro e w13 ⟨no, rfl, hO⟩
        have H13 := hide (And.intro hO ((unhide H12).trans hO.fr (fun _ _ h => h)))
        clear hO
        generalize hNL : ND.length = NL at *
        generalize hFL : LF.length = FL at *
        go_wp2_with fail
        refine (may_yes j w13 (unhide HJ).1 (unhide HJ).2).mono ?_
        rintro e w14 ⟨rfl, rfl⟩
        go_wp2_with fail
        refine ((unhide HE).2.2.1 w14 (unhide H13).2).mono ?_
        rintro e w15 ⟨uo, uc, rfl, hO⟩
        have hs1 := (unhide H13).1.src.fr0 hO.fr
        have hs2 := hO.src
        have H15 := hide ((unhide H13).2.trans hO.fr (fun _ _ h => h))
        rw [hNL] at hs1 hs2
        clear hO
        go_wp2_with fail
        refine (same_T hs1 hs2 (by rw [hNL]; have := (unhide HE).2.2.2.2.2.1; omega) (unhide HE).2.2.2.2.2.2.2.1).mono ?_
        rintro e w16 ⟨rfl, hF⟩
        have H16 := hide ((unhide H15).trans hF (fun _ _ h => h))
        clear hF hs1 hs2
        go_wp2_with fail
        refine ((unhide HE).2.1 w16 (unhide H16)).mono ?_
        rintro e w17 ⟨ko, rfl, hO⟩
        have H17 := hide (And.intro hO ((unhide H16).trans hO.fr (fun _ _ h => h)))
        clear hO
        go_wp2_with fail
        refine ((unhide HE).2.2.2.1 w17 (unhide H17).2).mono ?_
        rintro e w18 ⟨vo, vc, rfl, hO⟩
        have hs1 := (unhide H17).1.src.fr0 hO.fr
        have hs2 := hO.src
        have H18 := hide ((unhide H17).2.trans hO.fr (fun _ _ h => h))
        rw [hFL] at hs1 hs2
        clear hO
        go_wp2_with fail
        refine (same_T hs1 hs2 (by rw [hFL]; have := (unhide HE).2.2.2.2.2.2.1; omega) (unhide HE).2.2.2.2.2.2.2.2).mono ?_
        rintro e w19 ⟨rfl, hF⟩
        have H19 := hide ((unhide H18).trans hF (fun _ _ h => h))
        clear hF hs1 hs2
        go_wp2_with fail
        refine ((unhide HE).2.2.2.2.1 w19 (unhide H19)).mono ?_
        rintro e w20 ⟨rfl, hF⟩
        have H20 := hide ((unhide H19).trans hF (fun _ _ h => h))
        clear hF
        go_wp2_with fail
        go_ret
        exact ⟨rfl, unhide H20⟩
      · have HJ := hide hj
        have hN0 := hn0 hj
        have hF0 := hf0 hj
        subst hN0 hF0
        clear hn0 hf0 hj
        simp only [List.length_nil] at HE
        go_wp2_with fail
        refine ((unhide HE).1 w12 (unhide H12)).mono ?_
        rintro e w13 ⟨no, rfl, hO⟩
        have H13 := hide ((unhide H12).trans hO.fr (fun _ _ h => h))
        clear hO
        go_wp2_with fail
        refine (may_no j w13 (by have := unhide HJ; omega)).mono ?_
        rintro e w14 ⟨rfl, rfl⟩
        go_wp2_with fail
        refine ((unhide HE).2.1 w14 (unhide H13)).mono ?_
        rintro e w15 ⟨ko, rfl, hO⟩
        have H15 := hide ((unhide H13).trans hO.fr (fun _ _ h => h))
        clear hO
        go_wp2_with fail
        refine ((unhide HE).2.2.2.2.1 w15 (unhide H15)).mono ?_
        rintro e w16 ⟨rfl, hF⟩
        have H16 := hide ((unhide H15).trans hF (fun _ _ h => h))
        clear hF
        go_wp2_with fail
        go_ret
        exact ⟨rfl, unhide H16⟩
end Go.Proofs.YthamfidjilclpaaDoor

namespace Go.Proofs.YthamfidjilclpaaDoor
open Go.ChangeShapes Go.WideShapes Go.ChangeAt Go.RowKit
set_option maxRecDepth 100000

theorem mroots_contract (H : Type) (enc : TypeId × Value → H) (W : World) (base : Nat) (args : Array Value) (ds gs : List (DataW H)) (before : List MemPlace)
    (hval : ∀ (j : Nat) t v, Tryd.f4.params[j]? = some t → args[j]? = some v → Value.okWide Tryd.prog W .any base t v)
    (hW : DataW.Whole enc Tryd.prog Tryd.f4.params.toList Rows.merkleRootsSpec.vars false W args.toList ds gs before) (hk : Rows.uptoSmall H (ds ++ gs) = true) (hL : laidMetH Tryd.prog Rows.merkleRootsUptoRow.laid W) (hsh : W.ShapedOpen Tryd.prog) :
    Calls Tryd.prog 4 args W fun e W' => ∃ v, e = .returned v ∧ Rows.merkleRootsSpec.post enc Tryd.prog Tryd.f4 false true false false W args v W' := by
  have hW' := hW
  obtain ⟨p, q, hA0, hV, rfl, hfz, hnd⟩ := hW
  have hA : DataW.TrodAll enc Tryd.prog W 0 (fun _ => true) true Tryd.f4.params.toList args.toList ds p := hA0
  rw [Tryd.params4] at hA hval
  obtain ⟨v0, vs0, d0, ds0, p0, q0, hargs, rfl, rfl, h0, r0⟩ := trodAll_cons hA
  obtain ⟨v1, vs1, d1, ds1, p1, q1, rfl, rfl, rfl, h1, r1⟩ := trodAll_cons r0
  obtain ⟨v2, vs2, d2, ds2, p2, q2, rfl, rfl, rfl, h2, r2⟩ := trodAll_cons r1
  obtain ⟨v3, vs3, d3, ds3, p3, q3, rfl, rfl, rfl, h3, r3⟩ := trodAll_cons r2
  obtain ⟨rfl, rfl, rfl⟩ := trodAll_nil r3
  obtain rfl : args = #[v0, v1, v2, v3] := by cases args; simp_all
  obtain ⟨rfl, rfl⟩ := trodVars_none hV
  obtain ⟨a0, rfl, rfl, rfl, w0⟩ := open_int Tryd.underlying3 (hval 0 3 v0 rfl rfl) h0
  obtain ⟨us1, ps1, hP1, hCp1, hB1, hN1⟩ := pcs_of_readingC (hval 1 22 v1 rfl rfl) h1
  have hb2 : ∃ l : List Nat, Sl W v2 l ∧ l.length ≤ Rows.uptoBulk d2 := by
    obtain ⟨a, len, cap, rfl⟩ := okWide_slice Tryd.underlying26 (hval 2 26 v2 rfl rfl)
    obtain ⟨fuel, hf⟩ := h2
    obtain ⟨l, q1, q2, q3, q4, q5⟩ := src_of_trod (by simpa [Value.cells] using hf)
    exact ⟨l, ⟨q1, q3, q4, q2⟩, q5⟩
  obtain ⟨l2, hS2, hN2⟩ := hb2
  have hb3 : ∃ l : List Nat, Sl W v3 l ∧ l.length ≤ Rows.uptoBulk d3 := by
    obtain ⟨a, len, cap, rfl⟩ := okWide_slice Tryd.underlying26 (hval 3 26 v3 rfl rfl)
    obtain ⟨fuel, hf⟩ := h3
    obtain ⟨l, q1, q2, q3, q4, q5⟩ := src_of_trod (by simpa [Value.cells] using hf)
    exact ⟨l, ⟨q1, q3, q4, q2⟩, q5⟩
  obtain ⟨l3, hS3, hN3⟩ := hb3
  have hk1 : Rows.uptoBulk d1 ≤ 1048576 := by
    have h := of_decide_eq_true hk
    simp only [List.append_nil, Rows.uptoBulkAll] at h
    omega
  have hk2 : Rows.uptoBulk d2 ≤ 1048576 := by
    have h := of_decide_eq_true hk
    simp only [List.append_nil, Rows.uptoBulkAll] at h
    omega
  have hk3 : Rows.uptoBulk d3 ≤ 1048576 := by
    have h := of_decide_eq_true hk
    simp only [List.append_nil, Rows.uptoBulkAll] at h
    omega
  obtain ⟨hg, hr, ht⟩ := g6_of_laid (show laidMet Tryd.prog laid6 W from hL) (heap_enough hsh)
  clear hA0
  refine (roots_any a0 v1 v2 v3 us1 ps1 l2 l3 W hg hr ht hP1 hS2 hS3 (fun e he => by have := hB1 e he; omega) (by omega) (by omega) (by omega)).mono fun e W' ⟨he, hf⟩ => ?_
  subst he
  have hlt : ∀ x ∈ [] ++ (p1 ++ (p2 ++ (p3 ++ []))), x.block < W.heap.size := fun x hx => hW'.lt x (by simpa using hx)
  have hb := hf.below
  refine ⟨_, rfl, _, _, _, [], [] ++ (p1 ++ (p2 ++ (p3 ++ []))), [], hW', ?_, ?_, ?_, hb.frame _, fun h => by cases h⟩
  · exact trodAll_cons_mk (shut_bool Tryd.underlying4 true) trodAll_mk0
  · exact (trodAll_cons_mk (shut_int Tryd.underlying3 w0) (trodAll_cons_mk (Below.trod (by kernel_rfl) (by kernel_rfl) (by decide +kernel) h1 hb (fun x hx => hlt x (by simp [hx]))) (trodAll_cons_mk (Below.trod (by kernel_rfl) (by kernel_rfl) (by decide +kernel) h2 hb (fun x hx => hlt x (by simp [hx]))) (trodAll_cons_mk (Below.trod (by kernel_rfl) (by kernel_rfl) (by decide +kernel) h3 hb (fun x hx => hlt x (by simp [hx]))) trodAll_mk0))))
  · rfl

theorem mroots_laid_met (os : Os) : laidMetH Tryd.prog Rows.merkleRootsUptoRow.laid ((mWorld os).forCall (fun _ _ => 0) ⟨#[], #[.int .i64 0, .slice none 0 0, .slice none 0 0, .slice none 0 0], []⟩).memory :=
  laidMetH_of_parts (laidMet_of_run' 8 (by kernel_rfl) (by kernel_rfl)) (by kernel_rfl)
theorem mroots_reads (os : Os) {H : Type} (enc : TypeId × Value → H) : ∃ places, DataW.whole enc Tryd.prog ((mWorld os).forCall (fun _ _ => 0) ⟨#[], #[.int .i64 0, .slice none 0 0, .slice none 0 0, .slice none 0 0], []⟩).memory Tryd.f4.params.toList Rows.merkleRootsSpec.vars false #[Value.int .i64 0, .slice none 0 0, .slice none 0 0, .slice none 0 0].toList 8 = some ([.lit (.int .i64 0), .nil, .nil, .nil], [], places) :=
  ⟨[], by kernel_rfl⟩

theorem mroots_lifted (os : Os) (started : os.Started) (H : Type) (enc : TypeId × Value → H) (F : Stop.Interp) :
    ReturnsInHanded {} Tryd.checked os 4 .any ((Rows.OpenSpec.upto Rows.merkleRootsSpec).preRow enc Tryd.prog Tryd.f4 Rows.merkleRootsUptoRow.domain false Rows.merkleRootsUptoRow.laid) (((Rows.OpenSpec.upto Rows.merkleRootsSpec).at F).post enc Tryd.prog Tryd.f4 false true false false) := by
  obtain ⟨places, hx⟩ := mroots_reads os enc
  refine returnsInHanded_of_row (C := Tryd.checked) (s := Rows.OpenSpec.upto Rows.merkleRootsSpec) Tryd.ownKnob started (by kernel_rfl) Tryd.func4
    (witness_row_atRef (enc := enc) (C := Tryd.checked) false (mWorld os) #[.int .i64 0, .slice none 0 0, .slice none 0 0, .slice none 0 0] rfl (by kernel_rfl) (by kernel_rfl) (by kernel_rfl)
      (OpenSpec.preRow_of_cond 8 hx (by kernel_rfl) (fun k hk => by cases hk; kernel_rfl) (by kernel_rfl) (mroots_laid_met os))) ?_
  intro W base args ds gs before hval hW _ hcond _ hL hsh _
  exact mroots_contract H enc W base args ds gs before hval hW (hcond _ rfl) hL hsh

theorem mroots_said : Rows.MerkleRootsUptoSaid :=
  OpenClaim.holds_of_cond 4 Tryd.f4 rfl rfl rfl rfl rfl rfl rfl ⟨rfl, rfl, rfl, rfl, rfl⟩ rfl rfl rfl rfl rfl (by kernel_rfl) Tryd.func4 (by kernel_rfl)
    (of_decide_eq_true (by kernel_rfl)) (by unfold Func.isWrapper; first | (rw [if_pos (by decide +kernel)]; kernel_rfl) | (rw [if_neg (by decide +kernel)]; exact ⟨rfl, rfl⟩))
    (fun os started H enc _ F => by rw [OpenClaim.pre_eq_preRow]; exact mroots_lifted os started H enc F)

theorem mroots_plain (f : FuncId) (fn : Func) (hf : Tryd.pinned.checked.prog.funcNamed Rows.merkleRootsUptoRow.func = some f) (hfn : Tryd.pinned.checked.prog.funcs[f]? = some fn) :
    false = Tryd.pinned.checked.prog.looks [] ∧ ∀ (j : Nat) t, fn.params[j]? = some t → Tryd.pinned.checked.prog.wantsStandIn t = false := by
  obtain rfl : f = 4 := Option.some.inj ((show Tryd.prog.funcNamed Rows.merkleRootsUptoRow.func = some 4 by kernel_rfl).symm.trans hf) |>.symm
  obtain rfl : fn = Tryd.f4 := (Option.some.inj (Tryd.func4.symm.trans hfn)).symm
  refine ⟨by kernel_rfl, fun j t ht => ?_⟩
  rw [Tryd.params4] at ht
  have ht' : t = 3 ∨ t = 22 ∨ t = 26 := by simpa using Array.mem_of_getElem? ht
  rcases ht' with rfl | rfl | rfl
  · exact (show Tryd.prog.wantsStandIn 3 = false by kernel_rfl)
  · exact (show Tryd.prog.wantsStandIn 22 = false by kernel_rfl)
  · exact (show Tryd.prog.wantsStandIn 26 = false by kernel_rfl)

/-- THE SECOND FORM's CARD. -/
theorem mroots_card : Rows.MerkleRootsUptoCardSaid :=
  Claim7.holds_tied_plain_at .later [] _ _ _ _ mroots_said (fun _ h => by cases h) (by kernel_rfl) (fun _ h => by cases h) merkleRootsUpto_row_tie rfl ⟨rfl, rfl⟩ (by kernel_rfl) rfl mroots_plain (by kernel_rfl)
#print axioms mroots_card
end Go.Proofs.YthamfidjilclpaaDoor

