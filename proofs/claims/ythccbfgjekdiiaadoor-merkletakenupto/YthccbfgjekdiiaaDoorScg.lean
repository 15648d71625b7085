import Derived.Test.YthccbfgjekdiiaaDoorScf
import Derived.Deep.RegionHeld3
namespace Go.Proofs.YthccbfgjekdiiaaDoor
open Go.RowKit

/-- Within Write's loop: k blocks of the whole text are folded, the rest lies in a slice. -/
structure LI (w wr : World) (b o : Nat) (M : List Nat) (k : Nat) (xo : Option Addr) (n xc : Nat) : Prop where
  len : M.length = 64 * k + n
  H : HsAt wr b o (ssn M k) (fun _ => 0) M.length
  src : Src wr (.slice xo n xc) (M.drop (64 * k))
  nb : ∀ g f, xo = some ⟨g, f, none⟩ → ¬ g = b
  cap : n ≤ xc
  fr : FrH w wr b o
theorem LI.at {w wr : World} {b o : Nat} {M : List Nat} {k : Nat} {xo : Option Addr} {n xc : Nat} (h : LI w wr b o M k xo n xc) (hn : 64 ≤ n) (hM : ∀ v ∈ M, v < 256) : ∃ g f, xo = some ⟨g, f, none⟩ ∧ ¬ g = b ∧ wr.rangeAt g f (V8 (mb M k)) := by
  rcases h.src with ⟨hx, _⟩ | ⟨g, f, c, hx, hc⟩ | ⟨a, c, hx, _⟩
  · simp only [Value.slice.injEq] at hx; omega
  · simp only [Value.slice.injEq] at hx
    refine ⟨g, f, hx.1, h.nb g f hx.1, fun j v hv => hc j v ?_⟩
    obtain ⟨hj, rfl⟩ := V8_at _ j v hv
    rw [mb, rl_len] at hj
    rw [mb, rl_at _ j hj]
    have hlt : 64 * k + j < M.length := by have := h.len; omega
    simp only [cellsOf, List.getElem?_map, List.getElem?_drop, List.getD, List.getElem?_eq_getElem hlt, Option.map_some, Option.getD_some, B, Nat.mod_eq_of_lt (hM _ (List.getElem_mem hlt))]
  · simp only [Value.slice.injEq] at hx; omega
theorem LI.next {w wr w2 : World} {b o : Nat} {M : List Nat} {k : Nat} {g f n xc : Nat} (h : LI w wr b o M k (some ⟨g, f, none⟩) n xc) (hn : 64 ≤ n) (hf : Fr (fun _ => False) wr w2) :
    LI w (w2.setCells b o (fo (ssn M k) (mb M k)).cells) b o M (k + 1) (some ⟨g, f + 64, none⟩) (n - 64) (xc - 64) := by
  have hgb := h.nb g f rfl
  have hF : Fr (fun k => k = b) wr (w2.setCells b o (fo (ssn M k) (mb M k)).cells) := Fr.setCells (hf.mono (T := fun k => k = b) (fun _ _ h => h.elim)) (.inl rfl) _
  refine ⟨by have := h.len; omega, (h.H.fr hf (fun h => h)).putS _, ?_, fun g' f' e => ?_, by have := h.cap; omega, h.fr.trans ((FrH.of0 hf h.H.lt o).setCells o _ (Nat.le_refl _) (by rw [cells_V, V32_len]; show o + 8 ≤ o + 73; omega))⟩
  · have hs := h.src.fr hF (fun g' o' m c e => by simp only [Value.slice.injEq, Option.some.injEq, Addr.mk.injEq] at e; rw [← e.1.1]; exact hgb)
    have hdl : (M.drop (64 * (k + 1))).length = n - 64 := by rw [List.length_drop]; have := h.len; omega
    rcases hs with ⟨hx, _⟩ | ⟨g', f', c, hx, hc⟩ | ⟨a, c, hx, _⟩
    · simp only [Value.slice.injEq] at hx; omega
    · simp only [Value.slice.injEq, Option.some.injEq, Addr.mk.injEq] at hx
      obtain ⟨⟨rfl, rfl, _⟩, _, rfl⟩ := hx
      refine .inr (.inl ⟨g, f + 64, xc - 64, by rw [hdl], fun j v hv => ?_⟩)
      rw [Nat.add_assoc]
      refine hc (64 + j) v ?_
      simp only [cellsOf, List.getElem?_map, List.getElem?_drop] at hv ⊢
      rw [← hv]
      congr 2
      omega
    · simp only [Value.slice.injEq] at hx; omega
  · simp only [Option.some.injEq, Addr.mk.injEq] at e
    rw [← e.1]; exact hgb
/-- A slice of nothing lies anywhere. -/
theorem LI.move {w wr : World} {b o : Nat} {M : List Nat} {k : Nat} {g f f' n xc : Nat} (h : LI w wr b o M k (some ⟨g, f, none⟩) n xc) (hn : n = 0) : LI w wr b o M k (some ⟨g, f', none⟩) n xc := by
  subst hn
  refine ⟨h.len, h.H, .inr (.inr ⟨_, _, rfl, ?_⟩), fun g' f'' e => ?_, h.cap, h.fr⟩
  · exact List.drop_eq_nil_of_le (by have := h.len; omega)
  · simp only [Option.some.injEq, Addr.mk.injEq] at e
    rw [← e.1]; exact h.nb g f rfl
theorem LI.done {w wr : World} {b o : Nat} {M : List Nat} {k : Nat} {xo : Option Addr} {n xc : Nat} (h : LI w wr b o M k xo n xc) (hn : n < 64) (hM : ∀ v ∈ M, v < 256) :
    ∃ W', (∀ ty, (Builtin.copy_ #[25, 25] ty #[.slice (some ⟨b, o + 8, none⟩) 64 64, .slice xo n xc]).run Tryd.prog wr = .ok (goInt n) W') ∧ HM W' b o M ∧ FrH w W' b o := by
  have hdl : (M.drop (64 * k)).length = n := by rw [List.length_drop]; have := h.len; omega
  have hs := h.src
  rw [← hdl] at hs
  obtain ⟨W', hcp, hH, hF⟩ := copy_rest (h := 0) h.H hs (fun v hv => hM v (List.mem_of_mem_drop hv)) (by omega) 64 64 (by omega)
  rw [hdl, Nat.add_zero] at hcp
  refine ⟨W', hcp, ?_, h.fr.trans hF⟩
  have hk : M.length / 64 = k := by have := h.len; omega
  have hr : M.length % 64 = n := by have := h.len; omega
  rw [HM, hk]
  refine hH.congr (fun j hj => ?_)
  rw [rfn, hr, hk, hdl]
  by_cases hjn : j < n
  · rw [if_pos ⟨Nat.zero_le _, by omega⟩, if_pos hjn, Nat.sub_zero]
    simp only [List.getD, List.getElem?_drop]
  · rw [if_neg (by omega), if_neg hjn]
theorem mb_lt (M : List Nat) (hM : ∀ v ∈ M, v < 256) (k j : Nat) : (mb M k).getD j 0 < 256 := by
  refine rl_lt _ (fun j _ => ?_) j
  rw [List.getD]
  rcases e : M[64 * k + j]? with _ | v
  · decide
  · exact hM v (List.mem_of_getElem? e)

set_option maxRecDepth 100000 in
set_option maxHeartbeats 1000000 in
/-- Write, nothing held. -/
theorem write_z (b o : Nat) (m c : List Nat) (x : Value) (w : World) (hg : GS w) (hgb : 6 ≤ b) (hh : HM w b o m) (hx : Src w x c) (hxb : ∀ g o' n c', x = .slice (some ⟨g, o', none⟩) n c' → ¬ g = b) (hM : ∀ v ∈ m ++ c, v < 256) (hz : m.length % 64 = 0) (hm : m.length + c.length < 9223372036854775808) (hcap : ∀ g n c', x = .slice g n c' → n ≤ c') :
    Calls Tryd.prog 55 #[.pointer (some ⟨b, o, none⟩), x] w fun e w' => e = .returned (.tuple #[]) ∧ HM w' b o (m ++ c) ∧ FrH w w' b o := by
  obtain ⟨xo, xc, rfl⟩ := hx.form
  replace hcap := hcap _ _ _ rfl
  have c72 : w.cell? ⟨b, o + 72, none⟩ = some (.int .u64 (m.length : Nat)) := hh.tk
  have z72 := hh.fz 72 (by decide)
  have h1 := hh.putT (m.length + c.length)
  have hF1 : Fr (fun k => k = b) w (w.setCell ⟨b, o + 72, none⟩ (.int .u64 ((m.length + c.length : Nat) : Int))) := Fr.setCell (S := fun k => k = b) (Fr.refl _ _) (p := ⟨b, o + 72, none⟩) (.inl rfl) _
  obtain ⟨W1, hW1⟩ : ∃ W1, w.setCell ⟨b, o + 72, none⟩ (.int .u64 ((m.length : Int) + (c.length : Int))) = W1 := ⟨_, rfl⟩
  have hW1' : w.setCell ⟨b, o + 72, none⟩ (.int .u64 ((m.length + c.length : Nat) : Int)) = W1 := by rw [← hW1]; congr 1
  have hr0 : ∀ j, rfn m j = 0 := fun j => by rw [rfn, if_neg (by omega)]
  have hLI : LI w W1 b o (m ++ c) (m.length / 64) xo c.length xc := by
    have e64 : 64 * (m.length / 64) = m.length := by omega
    refine ⟨by rw [List.length_append]; omega, ?_, ?_, fun g f e => hxb g f _ _ (by rw [e]), hcap, hW1' ▸ FrH.setCell w b o (o + 72) (.int .u64 ((m.length + c.length : Nat) : Int)) (by omega) (by omega)⟩
    · rw [← hW1', List.length_append, ssn_app _ _ _ (by omega)]
      exact h1.congr (fun j _ => hr0 j)
    · rw [← hW1', e64, List.drop_left]
      exact hx.fr hF1 hxb
  have HB := hide (And.intro hLI (And.intro hg (And.intro hgb hM)))
  clear hLI hF1 h1 hx hxb hM hh hW1' hr0 hg hgb
  have r1 : (m.length : Int) % 64 = 0 := by omega
  generalize m ++ c = M at *
  generalize hkk : m.length / 64 = kk at *
  clear hkk
  generalize m.length = L at *
  generalize c.length = C at *
  go_enter Tryd.func55, Tryd.ntmps55
  go_wp2_with fail
  go_loopw [1] (fun bv wr => ∃ k xo' n xc', bv = .slice xo' n xc' ∧ LI w wr b o M k xo' n xc') (fun bv _ => match bv with | .slice _ n _ => n | _ => 0)
  case atStart => exact ⟨kk, xo, C, xc, rfl, (unhide HB).1⟩
  case round =>
    obtain ⟨k, xo', n, xc', rfl, hI⟩ := hrel
    by_cases hn : 64 ≤ n
    · have hn' : (64 : Int) ≤ (n : Int) := by omega
      obtain ⟨g, f, rfl, hgb, hrg⟩ := hI.at hn (unhide HB).2.2.2
      have hgk : GK wr := ((unhide HB).2.1.fr hI.fr.fr (fun k hk => by have := (unhide HB).2.2.1; omega)).1
      have HI := hide (And.intro hI (And.intro hrg hgk))
      clear hI hrg hgk
      go_wp2_with fail
      refine wp_region_noPanic (reg9 (fun _ _ _ _ _ h => h) _ _ b o M.length g f n xc' (ssn M k) (fun _ => 0) (mb M k) (by simp) rfl rfl hn (unhide HI).1.H (unhide HI).2.2 (ssn_ok _ _) (rl_len _) (mb_lt M (unhide HB).2.2.2 k) (unhide HI).2.1 (fun w2 hf => NoPanic.normal ?_))
      have hN := (unhide HI).1.next hn hf
      have HN := hide hN
      clear hN
      simp only [put9, Act.put, List.setIfInBounds_toArray, List.set_cons_zero, List.set_cons_succ]
      go_wp2_with fail
      refine ⟨⟨k + 1, _, _, _, rfl, ?_⟩, by show n - 64 < n; omega⟩
      by_cases hx64 : xc' = 64
      · rw [if_pos hx64]
        exact (unhide HN).move (by have := (unhide HI).1.cap; omega)
      · rw [if_neg hx64]
        exact unhide HN
    · have hn' : ¬ (64 : Int) ≤ (n : Int) := by omega
      obtain ⟨W', hcp, hHM, hFr⟩ := hI.done (by omega) (unhide HB).2.2.2
      have HE := hide (And.intro hHM hFr)
      clear hI hHM hFr
      go_wp2_with fail
      go_end0
      exact ⟨rfl, (unhide HE).1, (unhide HE).2⟩
end Go.Proofs.YthccbfgjekdiiaaDoor
