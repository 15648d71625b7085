import Derived.Test.YtjkkonhhnmjcaaaGreatDoorRbe
import Derived.Test.YtjkkonhhnmjcaaaGreatDoorRbf
namespace Go.Proofs.YtjkkonhhnmjcaaaGreatDoor
open Go.RowKit

/-- A reader that gave up. -/
theorem R.put_bad {w wa w1 : World} {b p : Nat} {F : Nat → Prop} {s : Rst} {fa ea : Addr} (h : R w b F s) (ha : Fr (fun _ => False) w wa) (hB : BadR wa w1 b fa s.nm p ea) :
    ∃ F', R (w1.setCell ⟨b, 1, none⟩ (.pointer (some fa))) b F' { s with f := some (s.nm, p, ea) } ∧ Ch w (w1.setCell ⟨b, 1, none⟩ (.pointer (some fa))) F F' := by
  have hlt := h.lt b h.fb
  obtain ⟨fb, fo, fs⟩ := fa
  obtain ⟨rfl, rfl, hge⟩ := hB.blk
  have hge' : w.heap.size ≤ fb := Nat.le_trans ha.size hge
  have hfl : fb < w1.heap.size := by
    rcases Nat.lt_or_ge fb w1.heap.size with hx | hx
    · exact hx
    · have := hB.c; rw [Array.getElem?_eq_none hx] at this; cases this
  have hfr : Fr (fun k => k = b) w w1 := (ha.mono (fun _ _ h => h.elim)).trans hB.fr (fun _ _ e => e)
  refine ⟨fun k => F k ∨ k = fb, ⟨?_, ?_, .inl h.fb, .inr ⟨s.nm, p, ea, fb, rfl, ?_, ?_, ?_, .inr rfl, by omega, ?_⟩⟩, ?_, ?_⟩
  · intro k hk
    rw [World.size_setCell]
    rcases hk with hk | rfl
    · exact Nat.lt_of_lt_of_le (h.lt k hk) hfr.size
    · exact hfl
  · intro k hk
    rcases hk with hk | rfl
    · exact h.lo k hk
    · have h2 := h.lo b h.fb
      omega
  · rw [World.cell?_setCell_other _ _ _ _ (by intro h; injection h with _ h2 _; cases h2)]; exact hB.c0
  · intro i; rw [World.frozen?_setCell]; exact hB.fz i
  · exact World.cell?_setCell_same _ _ _ hB.c1
  · rw [Below.heap_setCell _ _ _ _ (by show fb ≠ b; omega)]; exact hB.c
  · exact (hfr.mono (T := F) (fun _ _ e => by rw [e]; exact h.fb)).setCell (.inl h.fb) _
  · intro k hk
    rcases hk with hk | rfl
    · exact .inl hk
    · exact .inr hge'

theorem rFail_clo_nil (b : Nat) (p0 p1 : Addr) (w : World) (hp0 : w.cell? p0 = some (.pointer (some ⟨b, 0, none⟩))) (hp1 : w.cell? p1 = some .nilIface) :
    Calls Tryz.prog 145 #[.pointer (some p0), .pointer (some p1)] w fun e w' => e = .returned (.tuple #[]) ∧ Fr (fun _ => False) w w' := by
  go_enter Tryz.func145, Tryz.ntmps145
  go_wp2_with fail
  go_quiet ((go_at_call 146; exact Calls.quiet_of_same (rrefuse_no _ _ _)))
  go_wp2_with fail
  go_end0
  exact ⟨rfl, (Fr.refl _ _).drewN _⟩
theorem rFail_clo (b part : Nat) (p0 p1 ea : Addr) (nm : ByteArray) (sv : Value) (all : List Nat) (place : Nat) (w : World) (h : Rc w b nm sv all place part)
    (hp0 : w.cell? p0 = some (.pointer (some ⟨b, 0, none⟩))) (hp1 : w.cell? p1 = some (.iface 265 (.pointer (some ea)))) :
    Calls Tryz.prog 145 #[.pointer (some p0), .pointer (some p1)] w fun e w' => ∃ fa, e = .panicked [thrown fa] ∧ BadR w w' b fa nm part ea := by
  have h0 := h.c0
  have h4 := h.c4
  have H := hide h
  clear h
  go_enter Tryz.func145, Tryz.ntmps145
  go_wp2_with fail
  go_region_dies
  all_goals
    go_wp2_with fail
    refine (rrefuse_yes b part nm ea w.drew (by simpa using h0) (by simpa using h4)).mono ?_
    rintro e w1 ⟨rfl, rfl⟩
    exact ⟨rfl, _, rfl, BadR.of (unhide H) (Fr.refl _ _) (bad_of_drew w nm part ea)⟩
/-- What Fail makes of a reader. -/
def Rst.failN (s : Rst) (E : Nat → Addr) (n : Nat) : Rst := if n = 0 ∨ s.f ≠ none then s else { s with f := some (s.nm, s.part, E n) }
set_option maxRecDepth 100000 in
theorem rFail_any (b n : Nat) (F : Nat → Prop) (s : Rst) (E : Nat → Addr) (w : World) (h : R w b F s) :
    Calls Tryz.prog 114 #[.pointer (some ⟨b, 0, none⟩), errV E n] w fun e w' => e = .returned (.tuple #[]) ∧ ∃ F', R w' b F' (s.failN E n) ∧ Ch w w' F F' := by
  have hb := h.lt b h.fb
  have hmf := mf
  by_cases hn : s.f = none
  · obtain ⟨sv, hr, hF⟩ := h.rc hn
    have HN := hide (And.intro hn (And.intro h hr))
    by_cases h0 : n = 0
    · subst h0
      rw [errV, if_pos rfl, Rst.failN, if_pos (.inl rfl)]
      clear hn h hr hF
      go_enter Tryz.func114, Tryz.ntmps114
      go_wp2_with fail
      refine (attempt_ok b 145 _ (fun w' => Fr (fun _ => False) w w') _ (((box2 w _ _).cell hb (fun h => h)).trans (unhide HN).2.2.c1) (enters Tryz.func145 (by kernel_rfl) (by kernel_rfl) _) ?_).mono ?_
      · refine (rFail_clo_nil b ⟨w.heap.size, 0, none⟩ ⟨w.heap.size + 1, 0, none⟩ _ (((box1 _ _).cell (by simp <;> omega) (fun h => h)).trans (by simp)) (((box1 _ _).cell (by simp) (fun h => h)).trans (by simp))).mono ?_
        rintro e w' ⟨rfl, hf⟩
        exact ⟨rfl, ((box2 w _ _).alloc _).trans hf (fun _ _ h => h)⟩
      · rintro e w' ⟨rfl, hf⟩
        go_wp2_with fail
        go_end0
        exact ⟨rfl, F, (unhide HN).2.1.frame hf (fun _ _ h => h), hf.mono (fun _ _ h => h.elim), fun _ hk => .inl hk⟩
    · rw [errV, if_neg h0, Rst.failN, if_neg (by simp [h0, hn])]
      clear hn h hr hF
      go_enter Tryz.func114, Tryz.ntmps114
      go_wp2_with fail
      have hc1 := ((box2 w (.cells #[.pointer (some ⟨b, 0, none⟩)] 74) (.cells #[.iface 265 (.pointer (some (E n)))] 37)).cell (p := ⟨b, 1, none⟩) hb (fun h => h)).trans (unhide HN).2.2.c1
      have hk : Fr (fun _ => False) w (((w.alloc (.cells #[.pointer (some ⟨b, 0, none⟩)] 74)).alloc (.cells #[.iface 265 (.pointer (some (E n)))] 37)).alloc (.cells #[.pointer (some ⟨b, 0, none⟩)] 165)) := (box2 w _ _).alloc _
      refine (attempt_bad b 145 _ (fun w' fa => BadR (((w.alloc (.cells #[.pointer (some ⟨b, 0, none⟩)] 74)).alloc (.cells #[.iface 265 (.pointer (some (E n)))] 37)).alloc (.cells #[.pointer (some ⟨b, 0, none⟩)] 165)) w' b fa s.nm s.part (E n)) _ hc1 (enters Tryz.func145 (by kernel_rfl) (by kernel_rfl) _) ?_ (fun w' fa hB => ⟨(hB.fr.cell (by simp) (by show ¬ _ = b; simp; omega)).trans (c10 _ _ _), hB.c1, hB.fz 1⟩)).mono ?_
      · exact rFail_clo b s.part ⟨w.heap.size, 0, none⟩ ⟨w.heap.size + 1, 0, none⟩ (E n) s.nm sv s.all s.place _ ((unhide HN).2.2.frame hk (fun h => h) (fun _ _ _ _ _ h => h)) (((box1 _ _).cell (by simp <;> omega) (fun h => h)).trans (by simp)) (((box1 _ _).cell (by simp) (fun h => h)).trans (by simp))
      · rintro e w' ⟨rfl, w1, fa, hB, rfl⟩
        obtain ⟨F', hR, hC⟩ := R.put_bad (unhide HN).2.1 hk hB
        have HR := hide (And.intro hR hC)
        clear hR hC hB hk hc1
        go_wp2_with fail
        go_end0
        exact ⟨rfl, F', (unhide HR).1, (unhide HR).2⟩
  · rw [Rst.failN, if_pos (.inr hn)]
    have h1 : ∃ fa, w.cell? ⟨b, 1, none⟩ = some (.pointer (some fa)) := by
      rcases h.st with ⟨h1, _⟩ | ⟨what, place, ea, fb, _, _, _, h4, _⟩
      · exact absurd h1 hn
      · exact ⟨_, h4⟩
    obtain ⟨fa, h1⟩ := h1
    have H := hide h
    clear h hn
    have hv : errV E n = .nilIface ∨ errV E n = .iface 265 (.pointer (some (E n))) := by unfold errV; split <;> simp
    rcases hv with e | e
    all_goals
      rw [e]
      clear e
      go_enter Tryz.func114, Tryz.ntmps114
      go_wp2_with fail
      refine (attempt_given b fa _ _ (((box2 w _ _).cell hb (fun h => h)).trans h1)).mono ?_
      rintro e w' ⟨rfl, rfl⟩
      go_wp2_with fail
      go_end0
      exact ⟨rfl, F, (unhide H).frame ((box2 w _ _).alloc _) (fun _ _ h => h), Fr.mono (S := fun _ => False) ((box2 w _ _).alloc _) (fun _ _ h => h.elim), fun _ hk => .inl hk⟩

/-- Name, of a reader that has given up. -/
theorem rName_given (b : Nat) (x : ByteArray) (F : Nat → Prop) (s : Rst) (w : World) (h : R w b F s) (hn : s.f ≠ none) :
    Calls Tryz.prog 112 #[.pointer (some ⟨b, 0, none⟩), .string x] w fun e w' => e = .returned (.tuple #[]) ∧ R w' b F { s with nm := x } ∧ Fr (fun k => k = b) w w' := by
  rcases h.st with ⟨h1, _⟩ | ⟨what, place, ea, fb, h1, h2, h3, h4, h5, h6, h7⟩
  · exact absurd h1 hn
  have z0 := h3 0
  have H := hide (And.intro h (And.intro h1 (And.intro h3 (And.intro h4 (And.intro h5 (And.intro h6 h7))))))
  clear h hn h1 h3 h4 h5 h6 h7
  go_enter Tryz.func112, Tryz.ntmps112
  go_wp2
  go_end0
  obtain ⟨h, h1, h3, h4, h5, h6, h7⟩ := unhide H
  have hf : Fr (fun k => k = b) w (w.setCell ⟨b, 0, none⟩ (.string x)) := Fr.setCell (S := fun k => k = b) (Fr.refl _ _) (.inl rfl) _
  exact ⟨rfl, ⟨fun k hk => by rw [World.size_setCell]; exact h.lt k hk, h.lo, h.fb, .inr ⟨what, place, ea, fb, h1, World.cell?_setCell_same _ _ _ h2, fun i => by rw [World.frozen?_setCell]; exact h3 i, (World.cell?_setCell_other _ _ _ _ (by intro h; injection h with _ h2 _; cases h2)).trans h4, h5, h6, (hf.block fb (h.lt fb h5) (fun e => h6 e)).trans h7⟩⟩, hf⟩
end Go.Proofs.YtjkkonhhnmjcaaaGreatDoor
