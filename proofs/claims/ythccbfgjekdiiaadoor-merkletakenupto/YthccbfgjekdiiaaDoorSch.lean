import Derived.Test.YthccbfgjekdiiaaDoorScg
namespace Go.Proofs.YthccbfgjekdiiaaDoor
open Go.RowKit

theorem copy_full {w : World} {b o t h : Nat} {s : S8} {f : Nat → Nat} {xo : Option Addr} {xc : Nat} {c : List Nat} (H : HsAt w b o s f t) (hx : Src w (.slice xo c.length xc) c) (hc : ∀ v ∈ c, v < 256) (hh : h < 64) (hle : 64 ≤ h + c.length) (cp : Nat) :
    ∃ g f', xo = some ⟨g, f', none⟩ ∧ ∃ W', (∀ ty, (Builtin.copy_ #[25, 25] ty #[.slice (some ⟨b, o + 8 + h, none⟩) (64 - h) cp, .slice xo c.length xc]).run Tryd.prog w = .ok (goInt ((64 - h : Nat) : Int)) W') ∧
      HsAt W' b o s (fun j => if h ≤ j then c.getD (j - h) 0 else f j) t ∧ FrH w W' b o := by
  obtain ⟨g, oc, rfl, _⟩ := src_at hx 0 (by omega)
  have hl : (c.take (64 - h)).length = 64 - h := by rw [List.length_take]; omega
  have hsrc : ∀ j v, (V8 (c.take (64 - h)))[j]? = some v → w.cell? ((⟨g, oc, none⟩ : Addr).add j) = some v := fun j v hv => by
    have e : (⟨g, oc, none⟩ : Addr).add j = ⟨g, oc + j, none⟩ := by unfold Addr.add; split <;> simp_all
    rw [e]
    rcases hx with ⟨e2, _⟩ | ⟨g', o', c', e2, hcc⟩ | ⟨_, _, e2, e3⟩
    · cases e2
    · simp only [Value.slice.injEq, Option.some.injEq, Addr.mk.injEq, and_true] at e2
      obtain ⟨⟨rfl, rfl⟩, _⟩ := e2
      rw [cells_of_lt c hc] at hcc
      refine hcc j v ?_
      have hj := (V8_at _ j v hv).1
      rw [hl] at hj
      rw [← hv, V8, V8, List.getElem?_map, List.getElem?_map, List.getElem?_take_of_lt hj]
    · rw [e3] at hle; simp at hle; omega
  have hth : ∀ j, j < (V8 (c.take (64 - h))).length → (w.cell? ⟨b, o + 8 + h + j, none⟩).isSome = true ∧ w.frozen? ⟨b, o + 8 + h + j, none⟩ = false := fun j hj => by
    rw [V8_len, hl] at hj
    have := H.thereR (h + j) (by omega)
    rwa [← Nat.add_assoc] at this
  refine ⟨g, oc, rfl, w.setCells b (o + 8 + h) (V8 (c.take (64 - h))), fun ty => ?_, (H.putC (c.take (64 - h)) (by omega)).congr (fun j hj => ?_), (FrH.refl w b o).setCells _ _ (by omega) (by rw [V8_len, hl]; omega)⟩
  · have := run_copy_cells (P := Tryd.prog) w 25 25 ty 5 b (o + 8 + h) (64 - h) cp ⟨g, oc, none⟩ c.length xc (V8 (c.take (64 - h))) Tryd.underlying25 Tryd.sizeU8 (by rw [V8_len, hl]; exact (Nat.min_eq_right (by omega)).symm) hsrc (fun j hj => (hth j hj).1) (fun j hj => (hth j hj).2) (V8_one _)
    rw [V8_len, hl] at this
    exact this
  · rw [hl]
    by_cases hj2 : h ≤ j
    · rw [if_pos ⟨hj2, by omega⟩, if_pos hj2, List.getD, List.getD, List.getElem?_take_of_lt (by omega)]
    · rw [if_neg (by omega), if_neg hj2]

theorem Src.dropN {w : World} {g f xc : Nat} {l : List Nat} (h : Src w (.slice (some ⟨g, f, none⟩) l.length xc) l) (k : Nat) : Src w (.slice (some ⟨g, f + k, none⟩) (l.length - k) (xc - k)) (l.drop k) := by
  rcases h with ⟨hx, _⟩ | ⟨g', f', c, hx, hc⟩ | ⟨a, c, hx, rfl⟩
  · simp at hx
  · simp only [Value.slice.injEq, Option.some.injEq, Addr.mk.injEq] at hx
    obtain ⟨⟨rfl, rfl, _⟩, _, rfl⟩ := hx
    refine .inr (.inl ⟨g, f + k, xc - k, by rw [List.length_drop], fun j v hv => ?_⟩)
    rw [Nat.add_assoc]
    refine hc (k + j) v ?_
    simp only [cellsOf, List.getElem?_map, List.getElem?_drop] at hv ⊢
    exact hv
  · exact .inr (.inr ⟨_, _, by rw [List.length_nil, Nat.zero_sub], by simp⟩)
set_option maxRecDepth 100000 in
set_option maxHeartbeats 1000000 in
/-- Write, some held, and the block gets full. -/
theorem write_f (b o : Nat) (m c : List Nat) (x : Value) (w : World) (hg : GS w) (hgb : 6 ≤ b) (hh : HM w b o m) (hx : Src w x c) (hxb : ∀ g o' n c', x = .slice (some ⟨g, o', none⟩) n c' → ¬ g = b) (hM : ∀ v ∈ m ++ c, v < 256) (hz : ¬ m.length % 64 = 0) (hs : 64 ≤ m.length % 64 + c.length) (hm : m.length + c.length < 9223372036854775808) (hcap : ∀ g n c', x = .slice g n c' → n ≤ c') :
    Calls Tryd.prog 55 #[.pointer (some ⟨b, o, none⟩), x] w fun e w' => e = .returned (.tuple #[]) ∧ HM w' b o (m ++ c) ∧ FrH w w' b o := by
  obtain ⟨xo, xc, rfl⟩ := hx.form
  replace hcap := hcap _ _ _ rfl
  have hc : ∀ v ∈ c, v < 256 := fun v hv => hM v (List.mem_append_right _ hv)
  have c72 : w.cell? ⟨b, o + 72, none⟩ = some (.int .u64 (m.length : Nat)) := hh.tk
  have z72 := hh.fz 72 (by decide)
  have h1 := hh.putT (m.length + c.length)
  have hF1 : Fr (fun k => k = b) w (w.setCell ⟨b, o + 72, none⟩ (.int .u64 ((m.length + c.length : Nat) : Int))) := Fr.setCell (S := fun k => k = b) (Fr.refl _ _) (p := ⟨b, o + 72, none⟩) (.inl rfl) _
  obtain ⟨g, f, rfl, W', hcp, hH, hF2⟩ := copy_full (h := m.length % 64) h1 (hx.fr hF1 hxb) hc (by omega) hs (64 - m.length % 64)
  obtain ⟨W1, hW1⟩ : ∃ W1, w.setCell ⟨b, o + 72, none⟩ (.int .u64 ((m.length : Int) + (c.length : Int))) = W1 := ⟨_, rfl⟩
  have hW1' : w.setCell ⟨b, o + 72, none⟩ (.int .u64 ((m.length + c.length : Nat) : Int)) = W1 := by rw [← hW1]; congr 1
  have hXX := (FrH.setCell w b o (o + 72) (.int .u64 ((m.length + c.length : Nat) : Int)) (by omega) (by omega)).trans hF2
  have hFF := hXX.fr
  rw [hW1'] at hcp
  have hSrc := hx.fr hFF hxb
  have hHM : HsAt W' b o (ssn (m ++ c) (m.length / 64)) (fun j => (m ++ c).getD (64 * (m.length / 64) + j) 0) (m ++ c).length := by
    rw [List.length_append, ssn_app _ _ _ (by omega)]
    refine hH.congr (fun j hj => ?_)
    by_cases hj2 : m.length % 64 ≤ j
    · rw [if_pos hj2, List.getD, List.getD, List.getElem?_append_right (by omega)]
      congr 2
      omega
    · rw [if_neg hj2, rfn, if_pos (by omega), List.getD, List.getD, List.getElem?_append_left (by omega)]
  have hgk : GK W' := (hg.fr hFF (fun k hk => by omega)).1
  have hgn : ¬ g = b := hxb g f _ _ rfl
  have hdr : (m ++ c).drop (64 * (m.length / 64 + 1)) = c.drop (64 - m.length % 64) := by
    rw [List.drop_append, List.drop_eq_nil_of_le (by omega), List.nil_append]
    congr 1
    omega
  have hS2 := hSrc.dropN (64 - m.length % 64)
  rw [← hdr] at hS2
  have hlen : (m ++ c).length = 64 * (m.length / 64 + 1) + (c.length - (64 - m.length % 64)) := by rw [List.length_append]; omega
  have HB := hide (And.intro hHM (And.intro hXX (And.intro hg (And.intro hgb (And.intro hM (And.intro hgk (And.intro hS2 (And.intro hlen hgn))))))))
  clear hHM hFF hXX hg hgb hM hgk hSrc hS2 hlen hdr hgn hxb hH hF2 hF1 h1 hx hc hh hW1'
  have r1 : (m.length : Int) % 64 = ((m.length % 64 : Nat) : Int) := by omega
  have hd1 : 0 < m.length % 64 := by omega
  have hd2 : m.length % 64 < 64 := by omega
  generalize m ++ c = M at *
  generalize hkk : m.length / 64 = kk at *
  clear hkk
  generalize m.length % 64 = hd at *
  have q1 : (0 : Int) < (hd : Int) := by omega
  have q2 : (hd : Int) ≤ 64 := by omega
  have q3 : ¬ 64 = hd := by omega
  obtain ⟨nn, hnn⟩ : ∃ nn, nn = 64 - hd := ⟨_, rfl⟩
  rw [← hnn] at HB
  have hcp' : ∀ ty, (Builtin.copy_ #[25, 25] ty #[.slice (some ⟨b, o + 8 + hd, none⟩) (64 - hd) (64 - hd), .slice (some ⟨g, f, none⟩) c.length xc]).run Tryd.prog W1 = .ok (goInt (nn : Int)) W' := by rw [hnn]; exact hcp
  clear hcp
  have q4 : ¬ (hd : Int) + (nn : Int) < 64 := by omega
  have q5 : (hd : Int) + (nn : Int) = 64 := by omega
  have q6 : (nn : Int) ≤ (c.length : Int) := by omega
  have q7 : nn ≤ c.length := by omega
  have HN := hide hnn
  clear hnn
  generalize m.length = L at *
  generalize c.length = C at *
  go_enter Tryd.func55, Tryd.ntmps55
  go_wp2_with fail
  · refine wp_region_noPanic (reg6 (fun _ _ _ _ _ h => h) _ _ b o M.length (ssn M kk) (fun j => M.getD (64 * kk + j) 0) (by simp) rfl (unhide HB).1 (unhide HB).2.2.2.2.2.1 (ssn_ok _ _) (fun j hj => by have := mb_lt M (unhide HB).2.2.2.2.1 kk j; rwa [mb, rl_at _ j hj] at this) (fun w2 hf => NoPanic.normal ?_))
    obtain ⟨z0, hz0⟩ : ∃ z0, fo (ssn M kk) (rl (fun j => M.getD (64 * kk + j) 0)) = z0 := ⟨_, rfl⟩
    have hH3 := ((unhide HB).1.fr hf (fun h => h)).putS z0
    have hH4 := (hH3.putR (List.replicate 64 0) (by simp)).congr (g := fun _ => 0) (fun j hj => by rw [List.getD, List.getElem?_replicate, if_pos hj]; rfl)
    have hthR : (w2.setCells b o z0.cells).there b (o + 8) (Array.replicate 64 (Value.int .u8 0)).size := by
      rw [Array.size_replicate]
      exact hH3.thereR
    have hFr3 : FrH w ((w2.setCells b o z0.cells).setCells b (o + 8) (V8 (List.replicate 64 0))) b o := ((((unhide HB).2.1.trans (FrH.of0 hf (unhide HB).1.lt o)).setCells o _ (Nat.le_refl _) (by rw [cells_V, V32_len]; show o + 8 ≤ o + 73; omega)).setCells (o + 8) _ (by omega) (by rw [V8_len, List.length_replicate]; omega))
    have hFr4 : Fr (fun k => k = b) W' ((w2.setCells b o z0.cells).setCells b (o + 8) (V8 (List.replicate 64 0))) := Fr.setCells (Fr.setCells (hf.mono (T := fun k => k = b) (fun _ _ h => h.elim)) (.inl rfl) _) (.inl rfl) _
    have hsn : ssn M (kk + 1) = z0 := hz0
    have hLI : LI w ((w2.setCells b o z0.cells).setCells b (o + 8) (V8 (List.replicate 64 0))) b o M (kk + 1) (some ⟨g, f + nn, none⟩) (C - nn) (xc - nn) :=
      ⟨(unhide HB).2.2.2.2.2.2.2.1, by rw [hsn]; exact hH4, (unhide HB).2.2.2.2.2.2.1.fr hFr4 (fun g' o' m c e => by simp only [Value.slice.injEq, Option.some.injEq, Addr.mk.injEq] at e; rw [← e.1.1]; exact (unhide HB).2.2.2.2.2.2.2.2), fun g' f' e => by simp only [Option.some.injEq, Addr.mk.injEq] at e; rw [← e.1]; exact (unhide HB).2.2.2.2.2.2.2.2, by omega, hFr3⟩
    have eRep : (Array.replicate 64 (Value.int .u8 0)).toList = V8 (List.replicate 64 0) := by rw [V8, List.map_replicate, Array.toList_replicate]; rfl
    obtain ⟨W3, hW3⟩ : ∃ W3, w2.setCells b o z0.cells = W3 := ⟨_, rfl⟩
    obtain ⟨W4, hW4⟩ : ∃ W4, W3.setCells b (o + 8) (V8 (List.replicate 64 0)) = W4 := ⟨_, rfl⟩
    rw [hW3, hW4] at hLI
    rw [hW3] at hthR
    have hW4' : W3.setCells b (o + 8) (Array.replicate 64 (Value.int .u8 0)).toList = W4 := by rw [eRep]; exact hW4
    have hi6 : (Tryd.prog.info? 90).map (·.size) = some (Array.replicate 64 (Value.int .u8 0)).size := by rw [Array.size_replicate]; exact info_bl
    have e0 : xc - nn = 0 := by omega
    replace hLI := hLI.move (f' := f) (by omega)
    rw [e0] at hLI
    have HL := hide (And.intro hLI (And.intro hthR (And.intro hi6 hW4')))
    clear hH3 hH4 hFr3 hFr4 hLI hthR hf hsn hi6 hW4' hW4 eRep
    rw [hz0, hW3]
    clear hz0 hW3
    simp only [put6, Act.put, List.setIfInBounds_toArray, List.set_cons_zero, List.set_cons_succ]
    have hzb := build_bl
    go_wp2_with (refine wpList_store_to rfl 90 (.tmp 53) (.tmp 51) rfl b (o + 8) (Array.replicate 64 (.int .u8 0)) rfl rfl (unhide HL).2.1 (unhide HL).2.2.1 rep_one W4 (unhide HL).2.2.2 ?_)
    clear hzb
    simp only [Act.put]
    go_loopw [1] (fun bv wr => ∃ k xo' n xc', bv = .slice xo' n xc' ∧ LI w wr b o M k xo' n xc') (fun bv _ => match bv with | .slice _ n _ => n | _ => 0)
    case atStart => exact ⟨kk + 1, _, _, _, rfl, (unhide HL).1⟩
    case round =>
      obtain ⟨k, xo', n, xc', rfl, hI⟩ := hrel
      by_cases hn : 64 ≤ n
      · have hn' : (64 : Int) ≤ (n : Int) := by omega
        obtain ⟨g, f, rfl, hgb, hrg⟩ := hI.at hn (unhide HB).2.2.2.2.1
        have hgk : GK wr := ((unhide HB).2.2.1.fr hI.fr.fr (fun k hk => by have := (unhide HB).2.2.2.1; omega)).1
        have HI := hide (And.intro hI (And.intro hrg hgk))
        clear hI hrg hgk
        go_wp2_with fail
        refine wp_region_noPanic (reg9 (fun _ _ _ _ _ h => h) _ _ b o M.length g f n xc' (ssn M k) (fun _ => 0) (mb M k) (by simp) rfl rfl hn (unhide HI).1.H (unhide HI).2.2 (ssn_ok _ _) (rl_len _) (mb_lt M (unhide HB).2.2.2.2.1 k) (unhide HI).2.1 (fun w2 hf => NoPanic.normal ?_))
        have hN := (unhide HI).1.next hn hf
        have HN := hide hN
        clear hN
        simp only [put9, Act.put, List.setIfInBounds_toArray, List.set_cons_zero, List.set_cons_succ]
        go_wp2_with fail
        refine ⟨⟨k + 1, _, _, _, rfl, ?_⟩, by show n - 64 < n; omega⟩
        by_cases hx64 : xc' = 64
        · rw [if_pos hx64]
          exact (unhide HN).move (by have := (unhide HI).1.cap; omega)
        · rw [if_neg hx64]
          exact unhide HN
      · have hn' : ¬ (64 : Int) ≤ (n : Int) := by omega
        obtain ⟨W', hcp, hHM, hFr⟩ := hI.done (by omega) (unhide HB).2.2.2.2.1
        have HE := hide (And.intro hHM hFr)
        clear hI hHM hFr
        go_wp2_with fail
        go_end0
        exact ⟨rfl, (unhide HE).1, (unhide HE).2⟩
  · refine wp_region_noPanic (reg6 (fun _ _ _ _ _ h => h) _ _ b o M.length (ssn M kk) (fun j => M.getD (64 * kk + j) 0) (by simp) rfl (unhide HB).1 (unhide HB).2.2.2.2.2.1 (ssn_ok _ _) (fun j hj => by have := mb_lt M (unhide HB).2.2.2.2.1 kk j; rwa [mb, rl_at _ j hj] at this) (fun w2 hf => NoPanic.normal ?_))
    obtain ⟨z0, hz0⟩ : ∃ z0, fo (ssn M kk) (rl (fun j => M.getD (64 * kk + j) 0)) = z0 := ⟨_, rfl⟩
    have hH3 := ((unhide HB).1.fr hf (fun h => h)).putS z0
    have hH4 := (hH3.putR (List.replicate 64 0) (by simp)).congr (g := fun _ => 0) (fun j hj => by rw [List.getD, List.getElem?_replicate, if_pos hj]; rfl)
    have hthR : (w2.setCells b o z0.cells).there b (o + 8) (Array.replicate 64 (Value.int .u8 0)).size := by
      rw [Array.size_replicate]
      exact hH3.thereR
    have hFr3 : FrH w ((w2.setCells b o z0.cells).setCells b (o + 8) (V8 (List.replicate 64 0))) b o := ((((unhide HB).2.1.trans (FrH.of0 hf (unhide HB).1.lt o)).setCells o _ (Nat.le_refl _) (by rw [cells_V, V32_len]; show o + 8 ≤ o + 73; omega)).setCells (o + 8) _ (by omega) (by rw [V8_len, List.length_replicate]; omega))
    have hFr4 : Fr (fun k => k = b) W' ((w2.setCells b o z0.cells).setCells b (o + 8) (V8 (List.replicate 64 0))) := Fr.setCells (Fr.setCells (hf.mono (T := fun k => k = b) (fun _ _ h => h.elim)) (.inl rfl) _) (.inl rfl) _
    have hsn : ssn M (kk + 1) = z0 := hz0
    have hLI : LI w ((w2.setCells b o z0.cells).setCells b (o + 8) (V8 (List.replicate 64 0))) b o M (kk + 1) (some ⟨g, f + nn, none⟩) (C - nn) (xc - nn) :=
      ⟨(unhide HB).2.2.2.2.2.2.2.1, by rw [hsn]; exact hH4, (unhide HB).2.2.2.2.2.2.1.fr hFr4 (fun g' o' m c e => by simp only [Value.slice.injEq, Option.some.injEq, Addr.mk.injEq] at e; rw [← e.1.1]; exact (unhide HB).2.2.2.2.2.2.2.2), fun g' f' e => by simp only [Option.some.injEq, Addr.mk.injEq] at e; rw [← e.1]; exact (unhide HB).2.2.2.2.2.2.2.2, by omega, hFr3⟩
    have eRep : (Array.replicate 64 (Value.int .u8 0)).toList = V8 (List.replicate 64 0) := by rw [V8, List.map_replicate, Array.toList_replicate]; rfl
    obtain ⟨W3, hW3⟩ : ∃ W3, w2.setCells b o z0.cells = W3 := ⟨_, rfl⟩
    obtain ⟨W4, hW4⟩ : ∃ W4, W3.setCells b (o + 8) (V8 (List.replicate 64 0)) = W4 := ⟨_, rfl⟩
    rw [hW3, hW4] at hLI
    rw [hW3] at hthR
    have hW4' : W3.setCells b (o + 8) (Array.replicate 64 (Value.int .u8 0)).toList = W4 := by rw [eRep]; exact hW4
    have hi6 : (Tryd.prog.info? 90).map (·.size) = some (Array.replicate 64 (Value.int .u8 0)).size := by rw [Array.size_replicate]; exact info_bl
    have HL := hide (And.intro hLI (And.intro hthR (And.intro hi6 hW4')))
    clear hH3 hH4 hFr3 hFr4 hLI hthR hf hsn hi6 hW4' hW4 eRep
    rw [hz0, hW3]
    clear hz0 hW3
    simp only [put6, Act.put, List.setIfInBounds_toArray, List.set_cons_zero, List.set_cons_succ]
    have hzb := build_bl
    go_wp2_with (refine wpList_store_to rfl 90 (.tmp 53) (.tmp 51) rfl b (o + 8) (Array.replicate 64 (.int .u8 0)) rfl rfl (unhide HL).2.1 (unhide HL).2.2.1 rep_one W4 (unhide HL).2.2.2 ?_)
    clear hzb
    simp only [Act.put]
    go_loopw [1] (fun bv wr => ∃ k xo' n xc', bv = .slice xo' n xc' ∧ LI w wr b o M k xo' n xc') (fun bv _ => match bv with | .slice _ n _ => n | _ => 0)
    case atStart => exact ⟨kk + 1, _, _, _, rfl, (unhide HL).1⟩
    case round =>
      obtain ⟨k, xo', n, xc', rfl, hI⟩ := hrel
      by_cases hn : 64 ≤ n
      · have hn' : (64 : Int) ≤ (n : Int) := by omega
        obtain ⟨g, f, rfl, hgb, hrg⟩ := hI.at hn (unhide HB).2.2.2.2.1
        have hgk : GK wr := ((unhide HB).2.2.1.fr hI.fr.fr (fun k hk => by have := (unhide HB).2.2.2.1; omega)).1
        have HI := hide (And.intro hI (And.intro hrg hgk))
        clear hI hrg hgk
        go_wp2_with fail
        refine wp_region_noPanic (reg9 (fun _ _ _ _ _ h => h) _ _ b o M.length g f n xc' (ssn M k) (fun _ => 0) (mb M k) (by simp) rfl rfl hn (unhide HI).1.H (unhide HI).2.2 (ssn_ok _ _) (rl_len _) (mb_lt M (unhide HB).2.2.2.2.1 k) (unhide HI).2.1 (fun w2 hf => NoPanic.normal ?_))
        have hN := (unhide HI).1.next hn hf
        have HN := hide hN
        clear hN
        simp only [put9, Act.put, List.setIfInBounds_toArray, List.set_cons_zero, List.set_cons_succ]
        go_wp2_with fail
        refine ⟨⟨k + 1, _, _, _, rfl, ?_⟩, by show n - 64 < n; omega⟩
        by_cases hx64 : xc' = 64
        · rw [if_pos hx64]
          exact (unhide HN).move (by have := (unhide HI).1.cap; omega)
        · rw [if_neg hx64]
          exact unhide HN
      · have hn' : ¬ (64 : Int) ≤ (n : Int) := by omega
        obtain ⟨W', hcp, hHM, hFr⟩ := hI.done (by omega) (unhide HB).2.2.2.2.1
        have HE := hide (And.intro hHM hFr)
        clear hI hHM hFr
        go_wp2_with fail
        go_end0
        exact ⟨rfl, (unhide HE).1, (unhide HE).2⟩
end Go.Proofs.YthccbfgjekdiiaaDoor
