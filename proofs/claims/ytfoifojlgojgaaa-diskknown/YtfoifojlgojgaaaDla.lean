import Derived.Test.YtfoifojlgojgaaaDkz
namespace Go.Proofs.Ytfoifojlgojgaaa
open Go.RowKit Go.ChangeShapes Go.WideShapes Go.Maps Go.Sort

/-- The places of those that are one's own. -/
def wantL (own : Nat) : List Nat → Nat → List Nat
  | [], _ => []
  | o :: r, i => (if o % 256 = own then [i] else []) ++ wantL own r (i + 1)
theorem wantL_app (own o : Nat) : ∀ (l : List Nat) (i : Nat), wantL own (l ++ [o]) i = wantL own l i ++ (if o % 256 = own then [i + l.length] else [])
  | [], i => by simp [wantL]
  | p :: r, i => by
    simp only [List.cons_append, wantL, List.length_cons]
    rw [wantL_app own o r (i + 1), List.append_assoc, show i + 1 + r.length = i + (r.length + 1) by omega]
theorem wantL_len (own : Nat) : ∀ (l : List Nat) (i : Nat), (wantL own l i).length ≤ l.length
  | [], _ => Nat.le_refl _
  | p :: r, i => by
    have := wantL_len own r (i + 1)
    simp only [wantL, List.length_append, List.length_cons]
    split <;> simp <;> omega
/-- append(want, byte(z)). -/
theorem app_z (w : World) (base z : Nat) (v : Value) (l : List Nat) (h : w.ownsRow base 5 1 v l.length (cellsOf l)) (hb : base ≤ w.heap.size) (hl : l.length ≤ 1048576) :
    ∃ ao cap w', (Builtin.append_ #[28, 28] 28 #[v, .slice (some ⟨w.heap.size, 0, none⟩) 1 1]).run Try.prog (w.alloc (.cells #[.int .u8 ((z % 256 : Nat) : Int)] 5)) = .ok (.slice ao (l.length + 1) cap) w' ∧ w'.ownsRow base 5 1 (.slice ao (l.length + 1) cap) (l.length + 1) (cellsOf (l ++ [z])) ∧ Fr (fun g => v.ownBlock = some g) w w' := by
  have h1 : (w.alloc (.cells #[.int .u8 ((z % 256 : Nat) : Int)] 5)).ownsRow base 5 1 v l.length (cellsOf l) := ownsRow_of_block h (fun k hk => Below.heap_alloc _ _ _ (h.lt k hk).2)
  have hs : Src (w.alloc (.cells #[.int .u8 ((z % 256 : Nat) : Int)] 5)) (.slice (some ⟨w.heap.size, 0, none⟩) 1 1) [z] := .inr (.inl ⟨w.heap.size, 0, 1, rfl, fun j u hu => by
    rw [World.cell?_alloc_at _ _ _ _ rfl]
    simpa [cellsOf, B] using hu⟩)
  obtain ⟨ao, cap, w', hr, hown, hg, _⟩ := run_app_sl _ 28 base l.length v _ (cellsOf l) [z] h1 hs (by simp; omega) (by simp; omega)
  exact ⟨ao, cap, w', hr, by rw [cellsOf_append]; exact hown, ((box1 w _).mono (fun _ _ h => h.elim)).grown hg (fun g hg => .inl hg)⟩
set_option maxHeartbeats 1000000 in
set_option maxRecDepth 100000 in
theorem holds_at (d m own : Nat) (s : DM) (q : DW) (O : Nat → Prop) (name : ByteArray) (x : Value) (l : List Nat) (w : World) (h : DkAt w d m s q O) (ho : s.off = false) (hn : name.size ≤ maxLen) (hh : Maps.has s.D (.string (nm name)) = true) (hx : Src w x l) (hll : l.length ≤ 1000000) (hown : own < 256) (hbq : (s.F (nm name)).b = wantL own l 0) :
    Calls Try.prog 30 #[.pointer (some ⟨d, 0, none⟩), .string name, x, .int .u8 (own : Nat)] w fun e w' => e = .returned (.bool true) ∧ Fr (fun _ => False) w w' := by
  obtain ⟨xo, xc, rfl⟩ := hx.form
  have H := hide (And.intro h (And.intro hx hbq))
  clear h hx hbq
  go_enter Try.func30, Try.ntmps30
  go_wp2_with fail
  go_loopw [9, 10] (fun av iv wr => ∃ (k : Nat) (W : List Nat) (ao : Option Addr) (cap : Nat), av = .slice ao W.length cap ∧ iv = .int .i64 (k : Nat) ∧ k ≤ l.length ∧ W = wantL own (l.take k) 0 ∧ wr.ownsRow w.heap.size 5 1 (.slice ao W.length cap) W.length (cellsOf W) ∧ Fr (fun _ => False) w wr) (fun _ iv _ => l.length - (intOf iv).toNat)
  case atStart => exact ⟨0, [], none, 0, rfl, rfl, Nat.zero_le _, rfl, World.ownsRow_nil _ _ _ _, Fr.refl _ _⟩
  case round =>
    obtain ⟨k, W, ao, cap, rfl, rfl, hk, hW, hrow, hfr⟩ := hrel
    have hWl : W.length ≤ 1000000 := by
      have := wantL_len own (l.take k) 0
      rw [← hW, List.length_take] at this
      omega
    by_cases hkl : k < l.length
    · obtain ⟨g, o, rfl, hc⟩ := src_at ((unhide H).2.1.fr hfr (fun _ _ _ _ _ h => h)) k hkl
      have etk : wantL own (l.take (k + 1)) 0 = W ++ (if l[k] % 256 = own then [k] else []) := by
        rw [List.take_succ_eq_append_getElem hkl, wantL_app, ← hW, List.length_take, Nat.min_eq_left hk, Nat.zero_add]
      obtain ⟨ao2, cap2, w3, hr3, hown3, hf3⟩ := app_z wr w.heap.size k _ W hrow hfr.size (by omega)
      have HX := hide (And.intro hrow (And.intro hfr (And.intro hown3 (And.intro (hfr.absorb hf3 (fun g hg => (hrow.lt g hg).1)) etk))))
      have HR3 := hide hr3
      have hlk : l[k] % 256 < 256 := Nat.mod_lt _ (by decide)
      clear hr3 hrow hfr hown3 hf3 etk hW
      generalize hv : l[k] % 256 = v at *
      by_cases hvo : v = own
      · subst hvo
        go_wp2_with (at_builtin; refine wpList_app rfl _ _ 28 28 rfl _ _ _ rfl rfl (unhide HR3) ?_; clear HR3)
        refine ⟨⟨k + 1, W ++ [k], ao2, cap2, by rw [List.length_append]; rfl, by simp, hkl, ?_, by rw [List.length_append]; exact (unhide HX).2.2.1, (unhide HX).2.2.2.1⟩, by simp only [intOf]; omega⟩
        have e := (unhide HX).2.2.2.2
        rw [if_pos rfl] at e
        exact e.symm
      · have hvo' : ¬ ((v : Int) = (own : Int)) := by omega
        go_wp2_with fail
        refine ⟨⟨k + 1, W, ao, cap, rfl, by simp, hkl, ?_, (unhide HX).1, (unhide HX).2.1⟩, by simp only [intOf]; omega⟩
        have e := (unhide HX).2.2.2.2
        rw [if_neg hvo, List.append_nil] at e
        exact e.symm
    · have hke : k = l.length := by omega
      subst hke
      rw [List.take_length] at hW
      obtain ⟨hD, hx, hbq⟩ := unhide H
      have hD1 := hD.fr hfr (fun _ _ h => h)
      have HZ := hide (size_at d m s q O name wr hD1 ho hn hh)
      have hbl : (s.F (nm name)).b.length = W.length := by rw [hbq, hW]
      have HRD := hide (read0_at d m W.length s q O name wr hD1 ho hn hh (by omega) (by omega))
      rw [hbl] at HZ
      have HX := hide (And.intro hrow (And.intro hfr (And.intro hW (And.intro hbq hbl))))
      clear hrow hfr hW hbq hbl hD hx hD1
      go_wp2_with (first
        | (go_at_call 12; refine (unhide HZ).mono ?_; clear HZ; rintro e w' ⟨rfl, rfl⟩)
        | (go_at_call 18; refine (unhide HRD).mono ?_; clear HRD; rintro e w5 ⟨v5, rfl, hown5, hf5⟩))
      obtain ⟨hrow, hfr, hW, hbq, hbl⟩ := unhide HX
      have e5 : (s.F (nm name)).b.take W.length = W := by rw [← hbl, List.take_length, hbq, hW]
      rw [e5] at hown5
      have hy : Src w5 (.slice ao W.length cap) W := (own_src hrow).fr hf5 (fun _ _ _ _ _ h => h)
      have HF := hide (hfr.trans hf5 (fun _ _ h => h))
      refine (same_any _ _ W W w5 (own_src hown5) hy (by omega)).mono ?_
      rintro e w6 ⟨rfl, n6, rfl⟩
      have hsb : sameB W W = true := by simp [sameB]
      rw [hsb]
      clear hrow hfr hW hbq hbl e5 hown5 hy hf5 HX
      go_wp2_with fail
      go_ret
      exact ⟨rfl, (unhide HF).drewN _⟩
end Go.Proofs.Ytfoifojlgojgaaa
