import Derived.Test.YtikolmpgnpkdbaaDoorPk8
namespace Go.Proofs.YtikolmpgnpkdbaaDoor
open Go.RowKit

theorem wFail_clo_nil (b : Nat) (p0 p1 : Addr) (sv : Value) (l : List Nat) (w : World)
    (hp0 : w.cell? p0 = some (.pointer (some ⟨b, 0, none⟩))) (hp1 : w.cell? p1 = some .nilIface) (h2 : w.cell? ⟨b, 2, none⟩ = some sv) (ho : w.ownsRow (b + 1) 5 1 sv l.length (cellsOf l)) :
    Calls Tryd.prog 79 #[.pointer (some p0), .pointer (some p1)] w fun e w' => e = .returned (.tuple #[]) ∧ ∃ sv', Adv w w' b 2 sv sv' (l ++ []) := by
  have HO := hide ho
  clear ho
  go_enter Tryd.func79, Tryd.ntmps79
  go_wp2_with fail
  go_quiet ((go_at_call 75; exact Calls.quiet_of_same (wrefuse_no _ _ _)))
  go_wp2_with fail
  go_end0
  exact ⟨rfl, sv, Adv.of_drewN (n := nq) (by rw [List.append_nil]; exact Adv.refl (by simpa using h2) (unhide HO))⟩

theorem wFail_clo (b : Nat) (p0 p1 ea : Addr) (nm : ByteArray) (ao : Option Addr) (ln cap : Nat) (w : World)
    (hp0 : w.cell? p0 = some (.pointer (some ⟨b, 0, none⟩))) (hp1 : w.cell? p1 = some (.iface 147 (.pointer (some ea)))) (h0 : w.cell? ⟨b, 0, none⟩ = some (.string nm)) (h2 : w.cell? ⟨b, 2, none⟩ = some (.slice ao ln cap)) :
    Calls Tryd.prog 79 #[.pointer (some p0), .pointer (some p1)] w fun e w' => ∃ fa, e = .panicked [thrown fa] ∧ Bad w w' fa nm ln ea := by
  go_enter Tryd.func79, Tryd.ntmps79
  go_wp2_with fail
  go_region_dies
  all_goals
    go_wp2_with fail
    refine (wrefuse_yes b ln cap ao nm ea w.drew (by simpa using h0) (by simpa using h2)).mono ?_
    rintro e w1 ⟨rfl, rfl⟩
    exact ⟨rfl, _, rfl, bad_of_drew w nm ln ea⟩

/-- The error of a number, as a value. -/
def errV (E : Nat → Addr) (n : Nat) : Value := if n = 0 then .nilIface else .iface 147 (.pointer (some (E n)))
/-- What Fail makes of a writer. -/
def Wst.failN (s : Wst) (E : Nat → Addr) (n : Nat) : Wst := if n = 0 then s else s.fail (E n)

set_option maxRecDepth 100000 in
theorem wFail_any (b n : Nat) (F : Nat → Prop) (s : Wst) (E : Nat → Addr) (w : World) (h : W w b F s) :
    Calls Tryd.prog 37 #[.pointer (some ⟨b, 0, none⟩), errV E n] w fun e w' => e = .returned (.tuple #[]) ∧ ∃ F', W w' b F' (s.failN E n) ∧ Ch w w' F F' := by
  have hb := h.lt b h.fb
  have hmf := mf
  by_cases hn : s.f = none
  · have HN := hide hn
    by_cases h0 : n = 0
    · subst h0
      have e1 : s.failN E 0 = { s with l := s.l ++ [] } := by simp [Wst.failN]
      rw [errV, if_pos rfl, e1]
      clear hn e1
      go_enter Tryd.func37, Tryd.ntmps37
      go_wp2_with fail
      refine (att_ok (w := w) [] h (unhide HN) (box2 _ _ _) (enters Tryd.func79 (by kernel_rfl) (by kernel_rfl) _) (fun wk sv hk h2 f2 ho hF => wFail_clo_nil b ⟨w.heap.size, 0, none⟩ ⟨w.heap.size + 1, 0, none⟩ sv s.l wk ((hk.cell (by simp <;> omega) (fun h => h)).trans (by simp)) ((hk.cell (by simp) (fun h => h)).trans (by simp)) h2 ho)).mono ?_
      rintro e w' ⟨rfl, hq⟩
      go_wp2_with fail
      go_end0
      exact ⟨rfl, hq⟩
    · rw [errV, if_neg h0, Wst.failN, if_neg h0, Wst.fail, if_pos hn]
      clear hn
      go_enter Tryd.func37, Tryd.ntmps37
      go_wp2_with fail
      refine (att_bad (w := w) s.l.length (E n) h (unhide HN) (box2 _ _ _) (enters Tryd.func79 (by kernel_rfl) (by kernel_rfl) _) (fun wk hk hW => by
        obtain ⟨ao, cap, h2⟩ := hW.sv (unhide HN)
        exact wFail_clo b ⟨w.heap.size, 0, none⟩ ⟨w.heap.size + 1, 0, none⟩ (E n) s.nm ao s.l.length cap wk ((hk.cell (by simp <;> omega) (fun h => h)).trans (by simp)) ((hk.cell (by simp) (fun h => h)).trans (by simp)) hW.c0 h2)).mono ?_
      rintro e w' ⟨rfl, hq⟩
      go_wp2_with fail
      go_end0
      exact ⟨rfl, hq⟩
  · have HN := hide hn
    have e : s.failN E n = s := by simp [Wst.failN, Wst.fail, hn]
    rw [e]
    clear hn e
    have hv : errV E n = .nilIface ∨ errV E n = .iface 147 (.pointer (some (E n))) := by unfold errV; split <;> simp
    rcases hv with e | e
    all_goals
      rw [e]
      clear e
      go_enter Tryd.func37, Tryd.ntmps37
      go_wp2_with fail
      refine (att_given (w := w) h (unhide HN) (box2 _ _ _)).mono ?_
      rintro e w' ⟨rfl, hq⟩
      go_wp2_with fail
      go_end0
      exact ⟨rfl, hq⟩

set_option maxRecDepth 100000 in
theorem lay9_any (b u k : Nat) (s : ByteArray) (m : Int) (F : Nat → Prop) (st : Wst) (E : Nat → Addr) (w : World) (hk : k ≤ 7) (hg : G7 w E) (h : W w b F st) :
    Calls Tryd.prog 13 #[.pointer (some ⟨b, 0, none⟩), .agg #[.int .i64 9, .int .u64 u, .string s, .int .i64 k, .int .i64 m]] w fun e w' => e = .returned (.tuple #[]) ∧ ∃ F', W w' b F' (st.failN E k) ∧ Ch w w' F F' := by
  have H := hide (And.intro h hg)
  clear h hg
  go_enter Tryd.func13, Tryd.ntmps13
  go_wp2_with fail
  have hre : ∀ w', G7 w' E → Calls Tryd.prog 38 #[.int .i64 k] w' fun e w'' => e = .returned (errV E k) ∧ w'' = w' := fun w' hg' => by
    by_cases h0 : k = 0
    · subst h0; exact reason_none w'
    · rw [errV, if_neg h0]; exact reason_any k E w' hg' (by omega) hk
  refine (hre _ ((unhide H).2.fr (box1 w _) (fun _ h => h.elim))).mono ?_
  rintro e w1 ⟨rfl, rfl⟩
  go_wp2_with fail
  refine (wFail_any b k F st E _ ((unhide H).1.frame (box1 w _) (fun _ _ h => h))).mono ?_
  rintro e w' ⟨rfl, F', hW, hc⟩
  have HH := hide (And.intro hW hc)
  clear hW hc
  go_wp2_with fail
  go_end0
  exact ⟨rfl, F', (unhide HH).1, (unhide HH).2.behind (box1 w _)⟩
end Go.Proofs.YtikolmpgnpkdbaaDoor

namespace Go.Proofs.YtikolmpgnpkdbaaDoor
open Go.RowKit

theorem Ch.ahead {w wa w' : World} {F F' : Nat → Prop} (h : Ch w wa F F') (ha : Fr (fun _ => False) wa w') : Ch w w' F F' :=
  ⟨h.fr.trans ha (fun _ _ e => e.elim), h.new⟩

set_option maxRecDepth 100000 in
theorem rd1_zero (b u : Nat) (t : ByteArray) (n m : Int) (F : Nat → Prop) (s s' : Rst) (w : World) (h : R w b F s)
    (hM : ∀ wk, Fr (fun _ => False) w wk → R wk b F s → Calls Tryd.prog 21 #[.pointer (some ⟨b, 0, none⟩)] wk fun e w' => e = .returned (.int .u8 0) ∧ ∃ F', R w' b F' s' ∧ Ch wk w' F F') :
    Calls Tryd.prog 16 #[.pointer (some ⟨b, 0, none⟩), .agg #[.int .i64 1, .int .u64 u, .string t, .int .i64 n, .int .i64 m]] w fun e w' => ∃ c, e = .returned (.tuple #[.int .u64 0, c]) ∧ Src w' c [] ∧ ∃ F', R w' b F' s' ∧ Ch w w' F F' := by
  have H := hide (And.intro h hM)
  clear h hM
  have hfb := Tryd.fbits
  go_enter Tryd.func16, Tryd.ntmps16
  go_wp2_with fail
  refine ((unhide H).2 _ (box1 w _) ((unhide H).1.frame (box1 w _) (fun _ _ h => h))).mono ?_
  rintro e w' ⟨rfl, F', hR, hc⟩
  have HR := hide (And.intro hR hc)
  clear hR hc
  go_wp2_with fail
  go_ret2
  exact ⟨_, rfl, .inl ⟨rfl, rfl⟩, F', (unhide HR).1, (unhide HR).2.behind (box1 w _)⟩
set_option maxRecDepth 100000 in
theorem rd2_zero (b u : Nat) (t : ByteArray) (n m : Int) (F : Nat → Prop) (s s' : Rst) (w : World) (h : R w b F s)
    (hM : ∀ wk, Fr (fun _ => False) w wk → R wk b F s → Calls Tryd.prog 26 #[.pointer (some ⟨b, 0, none⟩)] wk fun e w' => e = .returned (.int .u16 0) ∧ ∃ F', R w' b F' s' ∧ Ch wk w' F F') :
    Calls Tryd.prog 16 #[.pointer (some ⟨b, 0, none⟩), .agg #[.int .i64 2, .int .u64 u, .string t, .int .i64 n, .int .i64 m]] w fun e w' => ∃ c, e = .returned (.tuple #[.int .u64 0, c]) ∧ Src w' c [] ∧ ∃ F', R w' b F' s' ∧ Ch w w' F F' := by
  have H := hide (And.intro h hM)
  clear h hM
  have hfb := Tryd.fbits
  go_enter Tryd.func16, Tryd.ntmps16
  go_wp2_with fail
  refine ((unhide H).2 _ (box1 w _) ((unhide H).1.frame (box1 w _) (fun _ _ h => h))).mono ?_
  rintro e w' ⟨rfl, F', hR, hc⟩
  have HR := hide (And.intro hR hc)
  clear hR hc
  go_wp2_with fail
  go_ret2
  exact ⟨_, rfl, .inl ⟨rfl, rfl⟩, F', (unhide HR).1, (unhide HR).2.behind (box1 w _)⟩
set_option maxRecDepth 100000 in
theorem rd4_zero (b u : Nat) (t : ByteArray) (n m : Int) (F : Nat → Prop) (s s' : Rst) (w : World) (h : R w b F s)
    (hM : ∀ wk, Fr (fun _ => False) w wk → R wk b F s → Calls Tryd.prog 42 #[.pointer (some ⟨b, 0, none⟩)] wk fun e w' => e = .returned (.int .u32 0) ∧ ∃ F', R w' b F' s' ∧ Ch wk w' F F') :
    Calls Tryd.prog 16 #[.pointer (some ⟨b, 0, none⟩), .agg #[.int .i64 4, .int .u64 u, .string t, .int .i64 n, .int .i64 m]] w fun e w' => ∃ c, e = .returned (.tuple #[.int .u64 0, c]) ∧ Src w' c [] ∧ ∃ F', R w' b F' s' ∧ Ch w w' F F' := by
  have H := hide (And.intro h hM)
  clear h hM
  have hfb := Tryd.fbits
  go_enter Tryd.func16, Tryd.ntmps16
  go_wp2_with fail
  refine ((unhide H).2 _ (box1 w _) ((unhide H).1.frame (box1 w _) (fun _ _ h => h))).mono ?_
  rintro e w' ⟨rfl, F', hR, hc⟩
  have HR := hide (And.intro hR hc)
  clear hR hc
  go_wp2_with fail
  go_ret2
  exact ⟨_, rfl, .inl ⟨rfl, rfl⟩, F', (unhide HR).1, (unhide HR).2.behind (box1 w _)⟩
set_option maxRecDepth 100000 in
theorem rd8_zero (b u : Nat) (t : ByteArray) (n m : Int) (F : Nat → Prop) (s s' : Rst) (w : World) (h : R w b F s)
    (hM : ∀ wk, Fr (fun _ => False) w wk → R wk b F s → Calls Tryd.prog 43 #[.pointer (some ⟨b, 0, none⟩)] wk fun e w' => e = .returned (.int .u64 0) ∧ ∃ F', R w' b F' s' ∧ Ch wk w' F F') :
    Calls Tryd.prog 16 #[.pointer (some ⟨b, 0, none⟩), .agg #[.int .i64 8, .int .u64 u, .string t, .int .i64 n, .int .i64 m]] w fun e w' => ∃ c, e = .returned (.tuple #[.int .u64 0, c]) ∧ Src w' c [] ∧ ∃ F', R w' b F' s' ∧ Ch w w' F F' := by
  have H := hide (And.intro h hM)
  clear h hM
  have hfb := Tryd.fbits
  go_enter Tryd.func16, Tryd.ntmps16
  go_wp2_with fail
  refine ((unhide H).2 _ (box1 w _) ((unhide H).1.frame (box1 w _) (fun _ _ h => h))).mono ?_
  rintro e w' ⟨rfl, F', hR, hc⟩
  have HR := hide (And.intro hR hc)
  clear hR hc
  go_wp2_with fail
  go_ret2
  exact ⟨_, rfl, .inl ⟨rfl, rfl⟩, F', (unhide HR).1, (unhide HR).2.behind (box1 w _)⟩
set_option maxRecDepth 100000 in
theorem rd5_zero (b u : Nat) (t : ByteArray) (n m : Int) (F : Nat → Prop) (s s' : Rst) (w : World) (h : R w b F s)
    (hM : ∀ wk, Fr (fun _ => False) w wk → R wk b F s → Calls Tryd.prog 45 #[.pointer (some ⟨b, 0, none⟩)] wk fun e w' => e = .returned (.float .f32 0) ∧ ∃ F', R w' b F' s' ∧ Ch wk w' F F') :
    Calls Tryd.prog 16 #[.pointer (some ⟨b, 0, none⟩), .agg #[.int .i64 5, .int .u64 u, .string t, .int .i64 n, .int .i64 m]] w fun e w' => ∃ c, e = .returned (.tuple #[.int .u64 0, c]) ∧ Src w' c [] ∧ ∃ F', R w' b F' s' ∧ Ch w w' F F' := by
  have H := hide (And.intro h hM)
  clear h hM
  have hfb := Tryd.fbits
  go_enter Tryd.func16, Tryd.ntmps16
  go_wp2_with fail
  refine ((unhide H).2 _ (box1 w _) ((unhide H).1.frame (box1 w _) (fun _ _ h => h))).mono ?_
  rintro e w' ⟨rfl, F', hR, hc⟩
  have HR := hide (And.intro hR hc)
  clear hR hc
  go_wp2_with fail
  go_ret2
  exact ⟨_, rfl, .inl ⟨rfl, rfl⟩, F', (unhide HR).1, (unhide HR).2.behind (box1 w _)⟩
set_option maxRecDepth 100000 in
theorem rd7_zero (b u : Nat) (t : ByteArray) (n m : Int) (F : Nat → Prop) (s s' : Rst) (w : World) (h : R w b F s)
    (hM : ∀ wk, Fr (fun _ => False) w wk → R wk b F s → Calls Tryd.prog 47 #[.pointer (some ⟨b, 0, none⟩), .int .i64 m] wk fun e w' => e = .returned (.int .i64 0) ∧ ∃ F', R w' b F' s' ∧ Ch wk w' F F') :
    Calls Tryd.prog 16 #[.pointer (some ⟨b, 0, none⟩), .agg #[.int .i64 7, .int .u64 u, .string t, .int .i64 n, .int .i64 m]] w fun e w' => ∃ c, e = .returned (.tuple #[.int .u64 0, c]) ∧ Src w' c [] ∧ ∃ F', R w' b F' s' ∧ Ch w w' F F' := by
  have H := hide (And.intro h hM)
  clear h hM
  go_enter Tryd.func16, Tryd.ntmps16
  go_wp2_with fail
  refine ((unhide H).2 _ (box1 w _) ((unhide H).1.frame (box1 w _) (fun _ _ h => h))).mono ?_
  rintro e w' ⟨rfl, F', hR, hc⟩
  have HR := hide (And.intro hR hc)
  clear hR hc
  go_wp2_with fail
  go_ret2
  exact ⟨_, rfl, .inl ⟨rfl, rfl⟩, F', (unhide HR).1, (unhide HR).2.behind (box1 w _)⟩
set_option maxRecDepth 100000 in
theorem rd6b_zero (b u : Nat) (t : ByteArray) (n m : Int) (F : Nat → Prop) (s s' : Rst) (w : World) (hp : (n.tmod 2 == 0) = false) (h : R w b F s)
    (hM : ∀ wk, Fr (fun _ => False) w wk → R wk b F s → Calls Tryd.prog 24 #[.pointer (some ⟨b, 0, none⟩), .int .i64 m] wk fun e w' => e = .returned (.slice none 0 0) ∧ ∃ F', R w' b F' s' ∧ Ch wk w' F F') :
    Calls Tryd.prog 16 #[.pointer (some ⟨b, 0, none⟩), .agg #[.int .i64 6, .int .u64 u, .string t, .int .i64 n, .int .i64 m]] w fun e w' => ∃ c, e = .returned (.tuple #[.int .u64 0, c]) ∧ Src w' c [] ∧ ∃ F', R w' b F' s' ∧ Ch w w' F F' := by
  have H := hide (And.intro h hM)
  clear h hM
  go_enter Tryd.func16, Tryd.ntmps16
  go_wp2_with fail
  refine ((unhide H).2 _ (box1 w _) ((unhide H).1.frame (box1 w _) (fun _ _ h => h))).mono ?_
  rintro e w' ⟨rfl, F', hR, hc⟩
  have HR := hide (And.intro hR hc)
  clear hR hc
  go_wp2_with fail
  go_ret2
  exact ⟨_, rfl, .inl ⟨rfl, rfl⟩, F', (unhide HR).1, (unhide HR).2.behind (box1 w _)⟩
set_option maxRecDepth 100000 in
theorem rd6t_zero (b u : Nat) (t : ByteArray) (n m : Int) (F : Nat → Prop) (s s' : Rst) (w : World) (hp : (n.tmod 2 == 0) = true) (h : R w b F s)
    (hM : ∀ wk, Fr (fun _ => False) w wk → R wk b F s → Calls Tryd.prog 46 #[.pointer (some ⟨b, 0, none⟩), .int .i64 m] wk fun e w' => e = .returned (.string ⟨#[]⟩) ∧ ∃ F', R w' b F' s' ∧ Ch wk w' F F') :
    Calls Tryd.prog 16 #[.pointer (some ⟨b, 0, none⟩), .agg #[.int .i64 6, .int .u64 u, .string t, .int .i64 n, .int .i64 m]] w fun e w' => ∃ c, e = .returned (.tuple #[.int .u64 0, c]) ∧ Src w' c [] ∧ ∃ F', R w' b F' s' ∧ Ch w w' F F' := by
  have H := hide (And.intro h hM)
  clear h hM
  go_enter Tryd.func16, Tryd.ntmps16
  go_wp2_with fail
  refine ((unhide H).2 _ (box1 w _) ((unhide H).1.frame (box1 w _) (fun _ _ h => h))).mono ?_
  rintro e w1 ⟨rfl, F', hR, hc⟩
  obtain ⟨cap, w2, hcv, hsrc, hf2⟩ := conv_bytes w1 ⟨#[]⟩
  have HR := hide (And.intro hR (And.intro hc (And.intro hsrc hf2)))
  clear hR hc hsrc hf2
  go_wp2_with fail
  go_ret2
  exact ⟨_, rfl, (unhide HR).2.2.1, F', (unhide HR).1.frame (unhide HR).2.2.2 (fun _ _ h => h), ((unhide HR).2.1.behind (box1 w _)).ahead (unhide HR).2.2.2⟩
end Go.Proofs.YtikolmpgnpkdbaaDoor

namespace Go.Proofs.YtikolmpgnpkdbaaDoor
open Go.RowKit

/-- A reader that gave up. -/
theorem R.put_bad {w wa w1 : World} {b p : Nat} {F : Nat → Prop} {s : Rst} {fa ea : Addr} (h : R w b F s) (ha : Fr (fun _ => False) w wa) (hB : BadR wa w1 b fa s.nm p ea) :
    ∃ F', R (w1.setCell ⟨b, 1, none⟩ (.pointer (some fa))) b F' { s with f := some (s.nm, p, ea) } ∧ Ch w (w1.setCell ⟨b, 1, none⟩ (.pointer (some fa))) F F' := by
  have hlt := h.lt b h.fb
  obtain ⟨fb, fo, fs⟩ := fa
  obtain ⟨rfl, rfl, hge⟩ := hB.blk
  have hge' : w.heap.size ≤ fb := Nat.le_trans ha.size hge
  have hfl : fb < w1.heap.size := by
    rcases Nat.lt_or_ge fb w1.heap.size with hx | hx
    · exact hx
    · have := hB.c; rw [Array.getElem?_eq_none hx] at this; cases this
  have hfr : Fr (fun k => k = b) w w1 := (ha.mono (fun _ _ h => h.elim)).trans hB.fr (fun _ _ e => e)
  refine ⟨fun k => F k ∨ k = fb, ⟨?_, ?_, .inl h.fb, .inr ⟨s.nm, p, ea, fb, rfl, ?_, ?_, ?_, .inr rfl, by omega, ?_⟩⟩, ?_, ?_⟩
  · intro k hk
    rw [World.size_setCell]
    rcases hk with hk | rfl
    · exact Nat.lt_of_lt_of_le (h.lt k hk) hfr.size
    · exact hfl
  · intro k hk
    rcases hk with hk | rfl
    · exact h.lo k hk
    · have h2 := h.lo b h.fb
      omega
  · rw [World.cell?_setCell_other _ _ _ _ (by intro h; injection h with _ h2 _; cases h2)]; exact hB.c0
  · intro i; rw [World.frozen?_setCell]; exact hB.fz i
  · exact World.cell?_setCell_same _ _ _ hB.c1
  · rw [Below.heap_setCell _ _ _ _ (by show fb ≠ b; omega)]; exact hB.c
  · exact (hfr.mono (T := F) (fun _ _ e => by rw [e]; exact h.fb)).setCell (.inl h.fb) _
  · intro k hk
    rcases hk with hk | rfl
    · exact .inl hk
    · exact .inr hge'

theorem rFail_clo_nil (b : Nat) (p0 p1 : Addr) (w : World) (hp0 : w.cell? p0 = some (.pointer (some ⟨b, 0, none⟩))) (hp1 : w.cell? p1 = some .nilIface) :
    Calls Tryd.prog 91 #[.pointer (some p0), .pointer (some p1)] w fun e w' => e = .returned (.tuple #[]) ∧ Fr (fun _ => False) w w' := by
  go_enter Tryd.func91, Tryd.ntmps91
  go_wp2_with fail
  go_quiet ((go_at_call 86; exact Calls.quiet_of_same (rrefuse_no _ _ _)))
  go_wp2_with fail
  go_end0
  exact ⟨rfl, (Fr.refl _ _).drewN _⟩
theorem rFail_clo (b part : Nat) (p0 p1 ea : Addr) (nm : ByteArray) (sv : Value) (all : List Nat) (place : Nat) (w : World) (h : Rc w b nm sv all place part)
    (hp0 : w.cell? p0 = some (.pointer (some ⟨b, 0, none⟩))) (hp1 : w.cell? p1 = some (.iface 147 (.pointer (some ea)))) :
    Calls Tryd.prog 91 #[.pointer (some p0), .pointer (some p1)] w fun e w' => ∃ fa, e = .panicked [thrown fa] ∧ BadR w w' b fa nm part ea := by
  have h0 := h.c0
  have h4 := h.c4
  have H := hide h
  clear h
  go_enter Tryd.func91, Tryd.ntmps91
  go_wp2_with fail
  go_region_dies
  all_goals
    go_wp2_with fail
    refine (rrefuse_yes b part nm ea w.drew (by simpa using h0) (by simpa using h4)).mono ?_
    rintro e w1 ⟨rfl, rfl⟩
    exact ⟨rfl, _, rfl, BadR.of (unhide H) (Fr.refl _ _) (bad_of_drew w nm part ea)⟩
/-- What Fail makes of a reader. -/
def Rst.failN (s : Rst) (E : Nat → Addr) (n : Nat) : Rst := if n = 0 ∨ s.f ≠ none then s else { s with f := some (s.nm, s.part, E n) }
set_option maxRecDepth 100000 in
theorem rFail_any (b n : Nat) (F : Nat → Prop) (s : Rst) (E : Nat → Addr) (w : World) (h : R w b F s) :
    Calls Tryd.prog 48 #[.pointer (some ⟨b, 0, none⟩), errV E n] w fun e w' => e = .returned (.tuple #[]) ∧ ∃ F', R w' b F' (s.failN E n) ∧ Ch w w' F F' := by
  have hb := h.lt b h.fb
  have hmf := mf
  by_cases hn : s.f = none
  · obtain ⟨sv, hr, hF⟩ := h.rc hn
    have HN := hide (And.intro hn (And.intro h hr))
    by_cases h0 : n = 0
    · subst h0
      rw [errV, if_pos rfl, Rst.failN, if_pos (.inl rfl)]
      clear hn h hr hF
      go_enter Tryd.func48, Tryd.ntmps48
      go_wp2_with fail
      refine (attempt_ok b 91 _ (fun w' => Fr (fun _ => False) w w') _ (((box2 w _ _).cell hb (fun h => h)).trans (unhide HN).2.2.c1) (enters Tryd.func91 (by kernel_rfl) (by kernel_rfl) _) ?_).mono ?_
      · refine (rFail_clo_nil b ⟨w.heap.size, 0, none⟩ ⟨w.heap.size + 1, 0, none⟩ _ (((box1 _ _).cell (by simp <;> omega) (fun h => h)).trans (by simp)) (((box1 _ _).cell (by simp) (fun h => h)).trans (by simp))).mono ?_
        rintro e w' ⟨rfl, hf⟩
        exact ⟨rfl, ((box2 w _ _).alloc _).trans hf (fun _ _ h => h)⟩
      · rintro e w' ⟨rfl, hf⟩
        go_wp2_with fail
        go_end0
        exact ⟨rfl, F, (unhide HN).2.1.frame hf (fun _ _ h => h), hf.mono (fun _ _ h => h.elim), fun _ hk => .inl hk⟩
    · rw [errV, if_neg h0, Rst.failN, if_neg (by simp [h0, hn])]
      clear hn h hr hF
      go_enter Tryd.func48, Tryd.ntmps48
      go_wp2_with fail
      have hc1 := ((box2 w (.cells #[.pointer (some ⟨b, 0, none⟩)] 38) (.cells #[.iface 147 (.pointer (some (E n)))] 35)).cell (p := ⟨b, 1, none⟩) hb (fun h => h)).trans (unhide HN).2.2.c1
      have hk : Fr (fun _ => False) w (((w.alloc (.cells #[.pointer (some ⟨b, 0, none⟩)] 38)).alloc (.cells #[.iface 147 (.pointer (some (E n)))] 35)).alloc (.cells #[.pointer (some ⟨b, 0, none⟩)] 108)) := (box2 w _ _).alloc _
      refine (attempt_bad b 91 _ (fun w' fa => BadR (((w.alloc (.cells #[.pointer (some ⟨b, 0, none⟩)] 38)).alloc (.cells #[.iface 147 (.pointer (some (E n)))] 35)).alloc (.cells #[.pointer (some ⟨b, 0, none⟩)] 108)) w' b fa s.nm s.part (E n)) _ hc1 (enters Tryd.func91 (by kernel_rfl) (by kernel_rfl) _) ?_ (fun w' fa hB => ⟨(hB.fr.cell (by simp) (by show ¬ _ = b; simp; omega)).trans (c10 _ _ _), hB.c1, hB.fz 1⟩)).mono ?_
      · exact rFail_clo b s.part ⟨w.heap.size, 0, none⟩ ⟨w.heap.size + 1, 0, none⟩ (E n) s.nm sv s.all s.place _ ((unhide HN).2.2.frame hk (fun h => h) (fun _ _ _ _ _ h => h)) (((box1 _ _).cell (by simp <;> omega) (fun h => h)).trans (by simp)) (((box1 _ _).cell (by simp) (fun h => h)).trans (by simp))
      · rintro e w' ⟨rfl, w1, fa, hB, rfl⟩
        obtain ⟨F', hR, hC⟩ := R.put_bad (unhide HN).2.1 hk hB
        have HR := hide (And.intro hR hC)
        clear hR hC hB hk hc1
        go_wp2_with fail
        go_end0
        exact ⟨rfl, F', (unhide HR).1, (unhide HR).2⟩
  · rw [Rst.failN, if_pos (.inr hn)]
    have h1 : ∃ fa, w.cell? ⟨b, 1, none⟩ = some (.pointer (some fa)) := by
      rcases h.st with ⟨h1, _⟩ | ⟨what, place, ea, fb, _, _, _, h4, _⟩
      · exact absurd h1 hn
      · exact ⟨_, h4⟩
    obtain ⟨fa, h1⟩ := h1
    have H := hide h
    clear h hn
    have hv : errV E n = .nilIface ∨ errV E n = .iface 147 (.pointer (some (E n))) := by unfold errV; split <;> simp
    rcases hv with e | e
    all_goals
      rw [e]
      clear e
      go_enter Tryd.func48, Tryd.ntmps48
      go_wp2_with fail
      refine (attempt_given b fa _ _ (((box2 w _ _).cell hb (fun h => h)).trans h1)).mono ?_
      rintro e w' ⟨rfl, rfl⟩
      go_wp2_with fail
      go_end0
      exact ⟨rfl, F, (unhide H).frame ((box2 w _ _).alloc _) (fun _ _ h => h), Fr.mono (S := fun _ => False) ((box2 w _ _).alloc _) (fun _ _ h => h.elim), fun _ hk => .inl hk⟩

set_option maxRecDepth 100000 in
theorem rd9_any (b u k : Nat) (t : ByteArray) (m : Int) (F : Nat → Prop) (s : Rst) (E : Nat → Addr) (w : World) (hk : k ≤ 7) (hg : G7 w E) (h : R w b F s) :
    Calls Tryd.prog 16 #[.pointer (some ⟨b, 0, none⟩), .agg #[.int .i64 9, .int .u64 u, .string t, .int .i64 k, .int .i64 m]] w fun e w' => ∃ c, e = .returned (.tuple #[.int .u64 0, c]) ∧ Src w' c [] ∧ ∃ F', R w' b F' (s.failN E k) ∧ Ch w w' F F' := by
  have H := hide (And.intro h hg)
  clear h hg
  go_enter Tryd.func16, Tryd.ntmps16
  go_wp2_with fail
  have hre : ∀ w', G7 w' E → Calls Tryd.prog 38 #[.int .i64 k] w' fun e w'' => e = .returned (errV E k) ∧ w'' = w' := fun w' hg' => by
    by_cases h0 : k = 0
    · subst h0; exact reason_none w'
    · rw [errV, if_neg h0]; exact reason_any k E w' hg' (by omega) hk
  refine (hre _ ((unhide H).2.fr (box1 w _) (fun _ h => h.elim))).mono ?_
  rintro e w1 ⟨rfl, rfl⟩
  go_wp2_with fail
  refine (rFail_any b k F s E _ ((unhide H).1.frame (box1 w _) (fun _ _ h => h))).mono ?_
  rintro e w' ⟨rfl, F', hR, hc⟩
  have HR := hide (And.intro hR hc)
  clear hR hc
  go_wp2_with fail
  go_ret2
  exact ⟨_, rfl, .inl ⟨rfl, rfl⟩, F', (unhide HR).1, (unhide HR).2.behind (box1 w _)⟩

/-- Name, of a reader that has given up. -/
theorem rName_given (b : Nat) (x : ByteArray) (F : Nat → Prop) (s : Rst) (w : World) (h : R w b F s) (hn : s.f ≠ none) :
    Calls Tryd.prog 49 #[.pointer (some ⟨b, 0, none⟩), .string x] w fun e w' => e = .returned (.tuple #[]) ∧ R w' b F { s with nm := x } ∧ Fr (fun k => k = b) w w' := by
  rcases h.st with ⟨h1, _⟩ | ⟨what, place, ea, fb, h1, h2, h3, h4, h5, h6, h7⟩
  · exact absurd h1 hn
  have z0 := h3 0
  have H := hide (And.intro h (And.intro h1 (And.intro h3 (And.intro h4 (And.intro h5 (And.intro h6 h7))))))
  clear h hn h1 h3 h4 h5 h6 h7
  go_enter Tryd.func49, Tryd.ntmps49
  go_wp2
  go_end0
  obtain ⟨h, h1, h3, h4, h5, h6, h7⟩ := unhide H
  have hf : Fr (fun k => k = b) w (w.setCell ⟨b, 0, none⟩ (.string x)) := Fr.setCell (S := fun k => k = b) (Fr.refl _ _) (.inl rfl) _
  exact ⟨rfl, ⟨fun k hk => by rw [World.size_setCell]; exact h.lt k hk, h.lo, h.fb, .inr ⟨what, place, ea, fb, h1, World.cell?_setCell_same _ _ _ h2, fun i => by rw [World.frozen?_setCell]; exact h3 i, (World.cell?_setCell_other _ _ _ _ (by intro h; injection h with _ h2 _; cases h2)).trans h4, h5, h6, (hf.block fb (h.lt fb h5) (fun e => h6 e)).trans h7⟩⟩, hf⟩
set_option maxRecDepth 100000 in
theorem rd10_given (b u : Nat) (t : ByteArray) (n m : Int) (F : Nat → Prop) (s : Rst) (w : World) (h : R w b F s) (hn : s.f ≠ none) :
    Calls Tryd.prog 16 #[.pointer (some ⟨b, 0, none⟩), .agg #[.int .i64 10, .int .u64 u, .string t, .int .i64 n, .int .i64 m]] w fun e w' => e = .returned (.tuple #[.int .u64 0, .slice none 0 0]) ∧ R w' b F { s with nm := t } ∧ Fr (fun k => k = b) w w' := by
  have H := hide (And.intro h hn)
  clear h hn
  go_enter Tryd.func16, Tryd.ntmps16
  go_wp2_with fail
  refine (rName_given b t F s _ ((unhide H).1.frame (box1 w _) (fun _ _ h => h)) (unhide H).2).mono ?_
  rintro e w' ⟨rfl, hR, hf⟩
  have HR := hide (And.intro hR hf)
  clear hR hf
  go_wp2_with fail
  go_ret2
  exact ⟨rfl, (unhide HR).1, (box1b w b _).trans (unhide HR).2 (fun _ _ h => h)⟩
end Go.Proofs.YtikolmpgnpkdbaaDoor

namespace Go.Proofs.YtikolmpgnpkdbaaDoor
open Go.RowKit

/-- What a reader has, its fault by number. -/
structure Q where
  nm : ByteArray
  all : List Nat
  place : Nat
  part : Nat
  f : Option (ByteArray × Nat × Nat)
def Q.rst (q : Q) (E : Nat → Addr) : Rst := ⟨q.nm, q.all, q.place, q.part, q.f.map fun x => (x.1, x.2.1, E x.2.2)⟩
def Q.fail (q : Q) (n : Nat) : Q := { q with f := some (q.nm, q.place, n) }
/-- The next n bytes as a number. -/
def Q.num (q : Q) (n : Nat) : Nat := val ((q.all.drop q.place).take n)
/-- How many bytes a part begins with. -/
def wid (k : Int) : Nat := if k = 5 ∨ k = 6 ∨ k = 7 then 4 else k.toNat
/-- A call on a reader: the reader behind it, the number and the bytes that it tells. -/
def Q.step (q : Q) (p : Pt) : Q × Nat × List Nat :=
  if p.k = 10 then ({ q with nm := p.s }, 0, [])
  else if q.f ≠ none then (q, 0, [])
  else if p.k = 9 then (if p.n = 0 then q else { q with f := some (q.nm, q.part, p.n.toNat) }, 0, [])
  else if q.all.length < wid p.k + q.place then (q.fail 1, 0, [])
  else if p.k = 5 ∧ quantB (q.num 4) = false then (q.fail 4, 0, [])
  else if (p.k = 6 ∨ p.k = 7) ∧ p.m < (q.num 4 : Int) then (q.fail 2, 0, [])
  else if p.k ≠ 6 then ({ q with place := q.place + wid p.k, part := q.place }, q.num (wid p.k), [])
  else if q.all.length < q.num 4 + (q.place + 4) then (q.fail 1, 0, [])
  else ({ q with place := q.place + 4 + q.num 4, part := q.place }, 0, (q.all.drop (q.place + 4)).take (q.num 4))
/-- Its places lie within the bytes, its fault has a number. -/
structure Q.ok (q : Q) : Prop where
  place : q.place ≤ q.all.length
  part : q.part ≤ q.all.length
  f : ∀ x, q.f = some x → x.2.1 ≤ q.all.length ∧ 1 ≤ x.2.2 ∧ x.2.2 ≤ 7
/-- The place that it tells. -/
def Q.at_ (q : Q) : Nat := match q.f with
  | none => q.place
  | some x => x.2.1
theorem Q.step_all (q : Q) (p : Pt) : (q.step p).1.all = q.all := by
  unfold Q.step Q.fail
  repeat' split
  all_goals rfl
theorem Q.step_ok {q : Q} (h : q.ok) (p : Pt) (h9 : p.k = 9 → 0 ≤ p.n ∧ p.n ≤ 7) : (q.step p).1.ok := by
  have h1 := h.place
  have h2 := h.part
  unfold Q.step Q.fail
  split
  · exact ⟨h1, h2, h.f⟩
  split
  · exact h
  split
  · rename_i e
    have := h9 e
    dsimp only
    split
    · exact h
    · exact ⟨h1, h2, fun x hx => by obtain rfl := Option.some.inj hx; exact ⟨h2, by show 1 ≤ p.n.toNat; omega, by show p.n.toNat ≤ 7; omega⟩⟩
  split
  · exact ⟨h1, h2, fun x hx => by obtain rfl := Option.some.inj hx; exact ⟨h1, by dsimp only; decide, by dsimp only; decide⟩⟩
  split
  · exact ⟨h1, h2, fun x hx => by obtain rfl := Option.some.inj hx; exact ⟨h1, by dsimp only; decide, by dsimp only; decide⟩⟩
  split
  · exact ⟨h1, h2, fun x hx => by obtain rfl := Option.some.inj hx; exact ⟨h1, by dsimp only; decide, by dsimp only; decide⟩⟩
  split
  · exact ⟨by show q.place + wid p.k ≤ q.all.length; omega, h1, h.f⟩
  split
  · exact ⟨h1, h2, fun x hx => by obtain rfl := Option.some.inj hx; exact ⟨h1, by dsimp only; decide, by dsimp only; decide⟩⟩
  · exact ⟨by show q.place + 4 + q.num 4 ≤ q.all.length; omega, h1, h.f⟩
theorem Q.at_le {q : Q} (h : q.ok) : q.at_ ≤ q.all.length := by
  unfold Q.at_
  split
  · exact h.place
  · rename_i x e
    exact (h.f x e).1
end Go.Proofs.YtikolmpgnpkdbaaDoor

namespace Go.Proofs.YtikolmpgnpkdbaaDoor
open Go.RowKit

theorem val_mul (x c : Nat) (hx : x < 72057594037927936) : IntKind.u64.wrap (IntKind.u64.wrap ((x : Int) * 256) + ((c % 256 : Nat) : Int)) = ((x * 256 + c % 256 : Nat) : Int) := by
  rw [IntKind.wrap_u64, IntKind.wrap_u64]; omega

set_option maxRecDepth 100000 in
theorem value_any (x : Value) (l : List Nat) (w : World) (hx : Src w x l) (hl : l.length ≤ 8) :
    Calls Tryd.prog 70 #[x] w fun e w' => e = .returned (.int .u64 (val l)) ∧ w' = w := by
  have HX := hide hx
  obtain ⟨xo, xc, rfl⟩ := hx.form
  clear hx
  go_enter Tryd.func70, Tryd.ntmps70
  go_wp2_with fail
  go_loop [3, 4] (fun x i => ∃ k : Nat, k ≤ l.length ∧ i = .int .i64 k ∧ x = .int .u64 (val (l.take k))) (fun _ i => l.length - (intOf i).toNat)
  case atStart => exact ⟨0, Nat.zero_le _, rfl, rfl⟩
  case round =>
    obtain ⟨k, hk, rfl, rfl⟩ := hrel
    by_cases hlt : k < l.length
    · obtain ⟨g, o, rfl, hcell⟩ := src_at (unhide HX) k hlt
      have hv := val_lt (l.take k)
      have hv2 : val (l.take k) < 72057594037927936 := by
        refine Nat.lt_of_lt_of_le hv (Nat.le_trans (Nat.pow_le_pow_right (by decide) (show (l.take k).length ≤ 7 by simp; omega)) (by decide))
      have HE := hide (val_snoc (l.take k) l[k])
      generalize val (l.take k) = y at *
      go_wp2
      refine ⟨⟨k + 1, by omega, by go_num, ?_⟩, by simp [intOf]; omega⟩
      rw [List.take_add_one, List.getElem?_eq_getElem hlt, Option.toList_some, unhide HE]
      congr 1
    · go_wp2
      go_ret
      rw [List.take_of_length_le (by omega)]
      exact ⟨rfl, rfl⟩
end Go.Proofs.YtikolmpgnpkdbaaDoor

namespace Go.Proofs.YtikolmpgnpkdbaaDoor
open Go.RowKit

theorem and_exp (x : Nat) : x &&& 2139095040 = x / 8388608 % 256 * 8388608 := by
  have e1 : (2139095040 : Nat) = (2 ^ 8 - 1) * 2 ^ 23 := by decide
  have e2 : x / 8388608 % 256 * 8388608 = x / 2 ^ 23 % 2 ^ 8 * 2 ^ 23 := rfl
  rw [e1, e2]
  apply Nat.eq_of_testBit_eq
  intro i
  rw [Nat.testBit_and, Nat.testBit_mul_two_pow, Nat.testBit_mul_two_pow, Nat.testBit_two_pow_sub_one, Nat.testBit_mod_two_pow, Nat.testBit_div_two_pow]
  by_cases h : 23 ≤ i
  · rw [show i - 23 + 23 = i from by omega]
    simp [h, Bool.and_comm]
  · simp [h]
theorem quantB_eq (x : Nat) : quantB x = ((x / 8388608 % 256 != 255) && (x != 2147483648)) := by
  unfold quantB
  rw [and_exp, Bool.eq_iff_iff]
  simp
  omega

/-- The ref's Quantity is quantB. -/
theorem gquant_any (x : Nat) (w : World) (hx : x < 18446744073709551616) : Calls Tryd.prog 71 #[.int .u64 x] w fun e w' => e = .returned (.bool (quantB x)) ∧ w' = w := by
  rw [quantB_eq]
  have hw : IntKind.u64.wrap ((x : Int) / 8388608) = ((x / 8388608 : Nat) : Int) := by rw [IntKind.wrap_u64]; omega
  by_cases h : (x : Int) / 8388608 % 256 = 255
  · have h2 : x / 8388608 % 256 = 255 := by omega
    go_enter Tryd.func71, Tryd.ntmps71
    go_wp2
    all_goals
      go_ret
      refine ⟨congrArg (fun b => Ending.returned (.bool b)) ?_, rfl⟩
      simp [h2]
  · have h2 : ¬ x / 8388608 % 256 = 255 := by omega
    have e2 : ((x : Int) != 2147483648) = (x != 2147483648) := by rw [Bool.eq_iff_iff]; simp; omega
    have e1 : ((x : Int) / 8388608 % 256 != 255) = true := by simp [h]
    go_enter Tryd.func71, Tryd.ntmps71
    go_wp2
    all_goals
      go_ret
      refine ⟨congrArg (fun b => Ending.returned (.bool b)) ?_, rfl⟩
      simp [h2]
end Go.Proofs.YtikolmpgnpkdbaaDoor

namespace Go.Proofs.YtikolmpgnpkdbaaDoor
open Go.RowKit

/-- The ref's reader, as a value. -/
def rdV (xo : Option Addr) (len xc : Nat) (place last : Int) (nm fw : ByteArray) (fa fy : Int) : Value :=
  .agg #[.slice xo len xc, .int .i64 place, .int .i64 last, .string nm, .string fw, .int .i64 fa, .int .i64 fy]

set_option maxRecDepth 1000000 in
theorem gread_10 (xo : Option Addr) (len xc : Nat) (place last fa fy : Int) (nm fw s : ByteArray) (u : Nat) (n m : Int) (w : World) :
    Calls Tryd.prog 29 #[rdV xo len xc place last nm fw fa fy, .agg #[.int .i64 10, .int .u64 u, .string s, .int .i64 n, .int .i64 m]] w fun e w' => e = .returned (.tuple #[rdV xo len xc place last s fw fa fy, .int .u64 0, .slice none 0 0]) ∧ Fr (fun _ => False) w w' := by
  unfold rdV
  go_enter Tryd.func29, Tryd.ntmps29
  go_wp2_with fail
  exact bodyPost_ret (v := .tuple #[rdV xo len xc place last s fw fa fy, .int .u64 0, .slice none 0 0]) (by simp [results, Tryd.results29, go_sem, rdV]) rfl ⟨rfl, box3 w _ _ _⟩

set_option maxRecDepth 1000000 in
theorem gread_given (xo : Option Addr) (len xc : Nat) (place last fa fy : Int) (nm fw s : ByteArray) (k : Int) (u : Nat) (n m : Int) (w : World) (h10 : k ≠ 10) (hy : fy ≠ 0) :
    Calls Tryd.prog 29 #[rdV xo len xc place last nm fw fa fy, .agg #[.int .i64 k, .int .u64 u, .string s, .int .i64 n, .int .i64 m]] w fun e w' => e = .returned (.tuple #[rdV xo len xc place last nm fw fa fy, .int .u64 0, .slice none 0 0]) ∧ Fr (fun _ => False) w w' := by
  have b10 : (k == 10) = false := by simp [h10]
  have by0 : (fy != 0) = true := by rw [bne_iff_ne]; exact hy
  clear h10 hy
  unfold rdV
  go_enter Tryd.func29, Tryd.ntmps29
  go_wp2_with fail
  exact bodyPost_ret (v := .tuple #[rdV xo len xc place last nm fw fa fy, .int .u64 0, .slice none 0 0]) (by simp [results, Tryd.results29, go_sem, rdV]) rfl ⟨rfl, box3 w _ _ _⟩

set_option maxRecDepth 1000000 in
theorem gread_9z (xo : Option Addr) (len xc : Nat) (place last fa : Int) (nm fw s : ByteArray) (u : Nat) (m : Int) (w : World) :
    Calls Tryd.prog 29 #[rdV xo len xc place last nm fw fa 0, .agg #[.int .i64 9, .int .u64 u, .string s, .int .i64 0, .int .i64 m]] w fun e w' => e = .returned (.tuple #[rdV xo len xc place last nm fw fa 0, .int .u64 0, .slice none 0 0]) ∧ Fr (fun _ => False) w w' := by
  unfold rdV
  go_enter Tryd.func29, Tryd.ntmps29
  go_wp2_with fail
  exact bodyPost_ret (v := .tuple #[rdV xo len xc place last nm fw fa 0, .int .u64 0, .slice none 0 0]) (by simp [results, Tryd.results29, go_sem, rdV]) rfl ⟨rfl, box3 w _ _ _⟩

set_option maxRecDepth 1000000 in
theorem gread_9 (xo : Option Addr) (len xc : Nat) (place last fa : Int) (nm fw s : ByteArray) (u : Nat) (n m : Int) (w : World) (hn : n ≠ 0) :
    Calls Tryd.prog 29 #[rdV xo len xc place last nm fw fa 0, .agg #[.int .i64 9, .int .u64 u, .string s, .int .i64 n, .int .i64 m]] w fun e w' => e = .returned (.tuple #[rdV xo len xc last last nm nm last n, .int .u64 0, .slice none 0 0]) ∧ Fr (fun _ => False) w w' := by
  have bn : (n != 0) = true := by rw [bne_iff_ne]; exact hn
  clear hn
  unfold rdV
  go_enter Tryd.func29, Tryd.ntmps29
  go_wp2_with fail
  exact bodyPost_ret (v := .tuple #[rdV xo len xc last last nm nm last n, .int .u64 0, .slice none 0 0]) (by simp [results, Tryd.results29, go_sem, rdV]) rfl ⟨rfl, box3 w _ _ _⟩

set_option maxRecDepth 1000000 in
theorem gread_1_short (xo : Option Addr) (len xc place : Nat) (last fa : Int) (nm fw s : ByteArray) (u : Nat) (n m : Int) (w : World) (hp : place ≤ len) (hs : len < 1 + place) :
    Calls Tryd.prog 29 #[rdV xo len xc place last nm fw fa 0, .agg #[.int .i64 1, .int .u64 u, .string s, .int .i64 n, .int .i64 m]] w fun e w' => e = .returned (.tuple #[rdV xo len xc place last nm nm place 1, .int .u64 0, .slice none 0 0]) ∧ Fr (fun _ => False) w w' := by
  have hw : IntKind.i64.wrap ((len : Int) - place) = (len : Int) - place := by rw [IntKind.wrap_i64]; omega
  have hd : decide ((len : Int) - place < 1) = true := by simp; omega
  unfold rdV
  go_enter Tryd.func29, Tryd.ntmps29
  go_wp2_with fail
  exact bodyPost_ret (v := .tuple #[rdV xo len xc place last nm nm place 1, .int .u64 0, .slice none 0 0]) (by simp [results, Tryd.results29, go_sem, rdV]) rfl ⟨rfl, box3 w _ _ _⟩
set_option maxRecDepth 1000000 in
theorem gread_2_short (xo : Option Addr) (len xc place : Nat) (last fa : Int) (nm fw s : ByteArray) (u : Nat) (n m : Int) (w : World) (hp : place ≤ len) (hs : len < 2 + place) :
    Calls Tryd.prog 29 #[rdV xo len xc place last nm fw fa 0, .agg #[.int .i64 2, .int .u64 u, .string s, .int .i64 n, .int .i64 m]] w fun e w' => e = .returned (.tuple #[rdV xo len xc place last nm nm place 1, .int .u64 0, .slice none 0 0]) ∧ Fr (fun _ => False) w w' := by
  have hw : IntKind.i64.wrap ((len : Int) - place) = (len : Int) - place := by rw [IntKind.wrap_i64]; omega
  have hd : decide ((len : Int) - place < 2) = true := by simp; omega
  unfold rdV
  go_enter Tryd.func29, Tryd.ntmps29
  go_wp2_with fail
  exact bodyPost_ret (v := .tuple #[rdV xo len xc place last nm nm place 1, .int .u64 0, .slice none 0 0]) (by simp [results, Tryd.results29, go_sem, rdV]) rfl ⟨rfl, box3 w _ _ _⟩
set_option maxRecDepth 1000000 in
theorem gread_4_short (xo : Option Addr) (len xc place : Nat) (last fa : Int) (nm fw s : ByteArray) (u : Nat) (n m : Int) (w : World) (hp : place ≤ len) (hs : len < 4 + place) :
    Calls Tryd.prog 29 #[rdV xo len xc place last nm fw fa 0, .agg #[.int .i64 4, .int .u64 u, .string s, .int .i64 n, .int .i64 m]] w fun e w' => e = .returned (.tuple #[rdV xo len xc place last nm nm place 1, .int .u64 0, .slice none 0 0]) ∧ Fr (fun _ => False) w w' := by
  have hw : IntKind.i64.wrap ((len : Int) - place) = (len : Int) - place := by rw [IntKind.wrap_i64]; omega
  have hd : decide ((len : Int) - place < 4) = true := by simp; omega
  unfold rdV
  go_enter Tryd.func29, Tryd.ntmps29
  go_wp2_with fail
  exact bodyPost_ret (v := .tuple #[rdV xo len xc place last nm nm place 1, .int .u64 0, .slice none 0 0]) (by simp [results, Tryd.results29, go_sem, rdV]) rfl ⟨rfl, box3 w _ _ _⟩
set_option maxRecDepth 1000000 in
theorem gread_8_short (xo : Option Addr) (len xc place : Nat) (last fa : Int) (nm fw s : ByteArray) (u : Nat) (n m : Int) (w : World) (hp : place ≤ len) (hs : len < 8 + place) :
    Calls Tryd.prog 29 #[rdV xo len xc place last nm fw fa 0, .agg #[.int .i64 8, .int .u64 u, .string s, .int .i64 n, .int .i64 m]] w fun e w' => e = .returned (.tuple #[rdV xo len xc place last nm nm place 1, .int .u64 0, .slice none 0 0]) ∧ Fr (fun _ => False) w w' := by
  have hw : IntKind.i64.wrap ((len : Int) - place) = (len : Int) - place := by rw [IntKind.wrap_i64]; omega
  have hd : decide ((len : Int) - place < 8) = true := by simp; omega
  unfold rdV
  go_enter Tryd.func29, Tryd.ntmps29
  go_wp2_with fail
  exact bodyPost_ret (v := .tuple #[rdV xo len xc place last nm nm place 1, .int .u64 0, .slice none 0 0]) (by simp [results, Tryd.results29, go_sem, rdV]) rfl ⟨rfl, box3 w _ _ _⟩
set_option maxRecDepth 1000000 in
theorem gread_5_short (xo : Option Addr) (len xc place : Nat) (last fa : Int) (nm fw s : ByteArray) (u : Nat) (n m : Int) (w : World) (hp : place ≤ len) (hs : len < 4 + place) :
    Calls Tryd.prog 29 #[rdV xo len xc place last nm fw fa 0, .agg #[.int .i64 5, .int .u64 u, .string s, .int .i64 n, .int .i64 m]] w fun e w' => e = .returned (.tuple #[rdV xo len xc place last nm nm place 1, .int .u64 0, .slice none 0 0]) ∧ Fr (fun _ => False) w w' := by
  have hw : IntKind.i64.wrap ((len : Int) - place) = (len : Int) - place := by rw [IntKind.wrap_i64]; omega
  have hd : decide ((len : Int) - place < 4) = true := by simp; omega
  unfold rdV
  go_enter Tryd.func29, Tryd.ntmps29
  go_wp2_with fail
  exact bodyPost_ret (v := .tuple #[rdV xo len xc place last nm nm place 1, .int .u64 0, .slice none 0 0]) (by simp [results, Tryd.results29, go_sem, rdV]) rfl ⟨rfl, box3 w _ _ _⟩
set_option maxRecDepth 1000000 in
theorem gread_6_short (xo : Option Addr) (len xc place : Nat) (last fa : Int) (nm fw s : ByteArray) (u : Nat) (n m : Int) (w : World) (hp : place ≤ len) (hs : len < 4 + place) :
    Calls Tryd.prog 29 #[rdV xo len xc place last nm fw fa 0, .agg #[.int .i64 6, .int .u64 u, .string s, .int .i64 n, .int .i64 m]] w fun e w' => e = .returned (.tuple #[rdV xo len xc place last nm nm place 1, .int .u64 0, .slice none 0 0]) ∧ Fr (fun _ => False) w w' := by
  have hw : IntKind.i64.wrap ((len : Int) - place) = (len : Int) - place := by rw [IntKind.wrap_i64]; omega
  have hd : decide ((len : Int) - place < 4) = true := by simp; omega
  unfold rdV
  go_enter Tryd.func29, Tryd.ntmps29
  go_wp2_with fail
  exact bodyPost_ret (v := .tuple #[rdV xo len xc place last nm nm place 1, .int .u64 0, .slice none 0 0]) (by simp [results, Tryd.results29, go_sem, rdV]) rfl ⟨rfl, box3 w _ _ _⟩
set_option maxRecDepth 1000000 in
theorem gread_7_short (xo : Option Addr) (len xc place : Nat) (last fa : Int) (nm fw s : ByteArray) (u : Nat) (n m : Int) (w : World) (hp : place ≤ len) (hs : len < 4 + place) :
    Calls Tryd.prog 29 #[rdV xo len xc place last nm fw fa 0, .agg #[.int .i64 7, .int .u64 u, .string s, .int .i64 n, .int .i64 m]] w fun e w' => e = .returned (.tuple #[rdV xo len xc place last nm nm place 1, .int .u64 0, .slice none 0 0]) ∧ Fr (fun _ => False) w w' := by
  have hw : IntKind.i64.wrap ((len : Int) - place) = (len : Int) - place := by rw [IntKind.wrap_i64]; omega
  have hd : decide ((len : Int) - place < 4) = true := by simp; omega
  unfold rdV
  go_enter Tryd.func29, Tryd.ntmps29
  go_wp2_with fail
  exact bodyPost_ret (v := .tuple #[rdV xo len xc place last nm nm place 1, .int .u64 0, .slice none 0 0]) (by simp [results, Tryd.results29, go_sem, rdV]) rfl ⟨rfl, box3 w _ _ _⟩
end Go.Proofs.YtikolmpgnpkdbaaDoor

namespace Go.Proofs.YtikolmpgnpkdbaaDoor
open Go.RowKit

theorem cut_at {w : World} {xo : Option Addr} {all : List Nat} {xc place n : Nat} (hx : Src w (.slice xo all.length xc) all) (hlc : all.length ≤ xc) (hs : n + place ≤ all.length) (hn : 0 < n) : Src w (.slice (Option.map (fun x => x.add place) xo) n (xc - place)) ((all.drop place).take n) := by
  have h := hx.cut place n hs hlc
  rw [if_neg (by omega)] at h
  exact h

set_option maxRecDepth 1000000 in
theorem gread_1_ok (xo : Option Addr) (all : List Nat) (xc place : Nat) (last fa : Int) (nm fw s : ByteArray) (u : Nat) (n m : Int) (w : World) (hx : Src w (.slice xo all.length xc) all) (hlc : all.length ≤ xc) (hl : all.length ≤ 140737488355328) (hs : 1 + place ≤ all.length) :
    Calls Tryd.prog 29 #[rdV xo all.length xc place last nm fw fa 0, .agg #[.int .i64 1, .int .u64 u, .string s, .int .i64 n, .int .i64 m]] w fun e w' => e = .returned (.tuple #[rdV xo all.length xc ((place + 1 : Nat) : Int) place nm fw fa 0, .int .u64 (val ((all.drop place).take 1)), .slice none 0 0]) ∧ Fr (fun _ => False) w w' := by
  have hw : IntKind.i64.wrap ((all.length : Int) - place) = (all.length : Int) - place := by rw [IntKind.wrap_i64]; omega
  have hd : decide ((all.length : Int) - place < 1) = false := by simp; omega
  have hcut := cut_at (n := 1) hx hlc hs (by decide)
  have hlen : ((all.drop place).take 1).length ≤ 8 := by simp; omega
  generalize (all.drop place).take 1 = l at *
  have HX := hide (And.intro hcut hlen)
  clear hx hcut hlen
  generalize all.length = len at *
  unfold rdV
  go_enter Tryd.func29, Tryd.ntmps29
  go_wp2_with fail
  refine (value_any _ l _ ((unhide HX).1.fr (box3 w _ _ _) (fun _ _ _ _ _ h => h)) (unhide HX).2).mono ?_
  rintro e w' ⟨rfl, rfl⟩
  go_wp2_with fail
  exact bodyPost_ret (v := .tuple #[rdV xo len xc ((place + 1 : Nat) : Int) place nm fw fa 0, .int .u64 (val l), .slice none 0 0]) (by simp [results, Tryd.results29, go_sem, rdV]) rfl ⟨rfl, box3 w _ _ _⟩
set_option maxRecDepth 1000000 in
theorem gread_2_ok (xo : Option Addr) (all : List Nat) (xc place : Nat) (last fa : Int) (nm fw s : ByteArray) (u : Nat) (n m : Int) (w : World) (hx : Src w (.slice xo all.length xc) all) (hlc : all.length ≤ xc) (hl : all.length ≤ 140737488355328) (hs : 2 + place ≤ all.length) :
    Calls Tryd.prog 29 #[rdV xo all.length xc place last nm fw fa 0, .agg #[.int .i64 2, .int .u64 u, .string s, .int .i64 n, .int .i64 m]] w fun e w' => e = .returned (.tuple #[rdV xo all.length xc ((place + 2 : Nat) : Int) place nm fw fa 0, .int .u64 (val ((all.drop place).take 2)), .slice none 0 0]) ∧ Fr (fun _ => False) w w' := by
  have hw : IntKind.i64.wrap ((all.length : Int) - place) = (all.length : Int) - place := by rw [IntKind.wrap_i64]; omega
  have hd : decide ((all.length : Int) - place < 2) = false := by simp; omega
  have hcut := cut_at (n := 2) hx hlc hs (by decide)
  have hlen : ((all.drop place).take 2).length ≤ 8 := by simp; omega
  generalize (all.drop place).take 2 = l at *
  have HX := hide (And.intro hcut hlen)
  clear hx hcut hlen
  generalize all.length = len at *
  unfold rdV
  go_enter Tryd.func29, Tryd.ntmps29
  go_wp2_with fail
  refine (value_any _ l _ ((unhide HX).1.fr (box3 w _ _ _) (fun _ _ _ _ _ h => h)) (unhide HX).2).mono ?_
  rintro e w' ⟨rfl, rfl⟩
  go_wp2_with fail
  exact bodyPost_ret (v := .tuple #[rdV xo len xc ((place + 2 : Nat) : Int) place nm fw fa 0, .int .u64 (val l), .slice none 0 0]) (by simp [results, Tryd.results29, go_sem, rdV]) rfl ⟨rfl, box3 w _ _ _⟩
set_option maxRecDepth 1000000 in
theorem gread_4_ok (xo : Option Addr) (all : List Nat) (xc place : Nat) (last fa : Int) (nm fw s : ByteArray) (u : Nat) (n m : Int) (w : World) (hx : Src w (.slice xo all.length xc) all) (hlc : all.length ≤ xc) (hl : all.length ≤ 140737488355328) (hs : 4 + place ≤ all.length) :
    Calls Tryd.prog 29 #[rdV xo all.length xc place last nm fw fa 0, .agg #[.int .i64 4, .int .u64 u, .string s, .int .i64 n, .int .i64 m]] w fun e w' => e = .returned (.tuple #[rdV xo all.length xc ((place + 4 : Nat) : Int) place nm fw fa 0, .int .u64 (val ((all.drop place).take 4)), .slice none 0 0]) ∧ Fr (fun _ => False) w w' := by
  have hw : IntKind.i64.wrap ((all.length : Int) - place) = (all.length : Int) - place := by rw [IntKind.wrap_i64]; omega
  have hd : decide ((all.length : Int) - place < 4) = false := by simp; omega
  have hcut := cut_at (n := 4) hx hlc hs (by decide)
  have hlen : ((all.drop place).take 4).length ≤ 8 := by simp; omega
  generalize (all.drop place).take 4 = l at *
  have HX := hide (And.intro hcut hlen)
  clear hx hcut hlen
  generalize all.length = len at *
  unfold rdV
  go_enter Tryd.func29, Tryd.ntmps29
  go_wp2_with fail
  refine (value_any _ l _ ((unhide HX).1.fr (box3 w _ _ _) (fun _ _ _ _ _ h => h)) (unhide HX).2).mono ?_
  rintro e w' ⟨rfl, rfl⟩
  go_wp2_with fail
  exact bodyPost_ret (v := .tuple #[rdV xo len xc ((place + 4 : Nat) : Int) place nm fw fa 0, .int .u64 (val l), .slice none 0 0]) (by simp [results, Tryd.results29, go_sem, rdV]) rfl ⟨rfl, box3 w _ _ _⟩
set_option maxRecDepth 1000000 in
theorem gread_8_ok (xo : Option Addr) (all : List Nat) (xc place : Nat) (last fa : Int) (nm fw s : ByteArray) (u : Nat) (n m : Int) (w : World) (hx : Src w (.slice xo all.length xc) all) (hlc : all.length ≤ xc) (hl : all.length ≤ 140737488355328) (hs : 8 + place ≤ all.length) :
    Calls Tryd.prog 29 #[rdV xo all.length xc place last nm fw fa 0, .agg #[.int .i64 8, .int .u64 u, .string s, .int .i64 n, .int .i64 m]] w fun e w' => e = .returned (.tuple #[rdV xo all.length xc ((place + 8 : Nat) : Int) place nm fw fa 0, .int .u64 (val ((all.drop place).take 8)), .slice none 0 0]) ∧ Fr (fun _ => False) w w' := by
  have hw : IntKind.i64.wrap ((all.length : Int) - place) = (all.length : Int) - place := by rw [IntKind.wrap_i64]; omega
  have hd : decide ((all.length : Int) - place < 8) = false := by simp; omega
  have hcut := cut_at (n := 8) hx hlc hs (by decide)
  have hlen : ((all.drop place).take 8).length ≤ 8 := by simp; omega
  generalize (all.drop place).take 8 = l at *
  have HX := hide (And.intro hcut hlen)
  clear hx hcut hlen
  generalize all.length = len at *
  unfold rdV
  go_enter Tryd.func29, Tryd.ntmps29
  go_wp2_with fail
  refine (value_any _ l _ ((unhide HX).1.fr (box3 w _ _ _) (fun _ _ _ _ _ h => h)) (unhide HX).2).mono ?_
  rintro e w' ⟨rfl, rfl⟩
  go_wp2_with fail
  exact bodyPost_ret (v := .tuple #[rdV xo len xc ((place + 8 : Nat) : Int) place nm fw fa 0, .int .u64 (val l), .slice none 0 0]) (by simp [results, Tryd.results29, go_sem, rdV]) rfl ⟨rfl, box3 w _ _ _⟩
end Go.Proofs.YtikolmpgnpkdbaaDoor

