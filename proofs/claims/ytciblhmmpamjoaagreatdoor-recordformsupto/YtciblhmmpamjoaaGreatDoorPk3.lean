import Derived.Test.YtciblhmmpamjoaaGreatDoorPk2
import Derived.Test.YtciblhmmpamjoaaGreatDoorOca
namespace Go.Proofs.YtciblhmmpamjoaaGreatDoor
open Go.RowKit Go.Shelf

/-- What is left to be looked at from the j-th field on. -/
def gat (gone : Bool) (l : List F5) : Nat → Bool
  | 0 => gfds gone l
  | j + 1 => match l[j]? with
    | some f => gris gone f.n (l.drop (j + 1))
    | none => true
theorem gat_step (gone : Bool) (l : List F5) (j : Nat) (hj : j < l.length) : gat gone l j = (gfld gone l[j] && (if _h : j = 0 then true else Op.bytesLess (l[j - 1]'(by omega)).n.toList l[j].n.toList) && gat gone l (j + 1)) := by
  have hd : l.drop j = l[j] :: l.drop (j + 1) := List.drop_eq_getElem_cons hj
  rcases j with _ | j
  · cases l with
    | nil => simp at hj
    | cons f r => simp [gat, gfds]
  · have hj' : j < l.length := by omega
    simp only [gat, List.getElem?_eq_getElem hj', List.getElem?_eq_getElem hj]
    rw [hd]
    simp [gris]
theorem gat_end (gone : Bool) (l : List F5) : gat gone l l.length = true := by
  rcases e : l.length with _ | j
  · obtain rfl := List.length_eq_zero_iff.1 e
    rfl
  · simp only [gat]
    rw [List.getElem?_eq_getElem (by omega), show l.drop (j + 1) = [] by rw [List.drop_eq_nil_iff]; omega]
    rfl
set_option maxHeartbeats 2000000 in
set_option maxRecDepth 100000 in
/-- The reference's fields. -/
theorem gfields_any (x : Value) (l : List F5) (gone : Bool) (w : World) (hx : Fds w x l) (hl : l.length ≤ 140737488355328) (hv : ∀ f ∈ l, f.v < 4294967296 ∧ f.u < 256) :
    Calls Tryz.prog 32 #[x, .bool gone] w fun e w' => e = .returned (.bool (fdsB l gone)) ∧ Fr (fun _ => False) w w' := by
  have HX := hide (And.intro hx hv)
  obtain ⟨xo, xc, rfl⟩ := hx.form
  clear hx hv
  go_enter Tryz.func32, Tryz.ntmps32
  go_wp2_with fail
  go_loopw [5] (fun iv wr => ∃ j : Nat, j ≤ l.length ∧ iv = .int .i64 (j : Nat) ∧ gfds gone l = gat gone l j ∧ Fr (fun _ => False) w wr) (fun iv _ => l.length - (intOf iv).toNat)
  case atStart => exact ⟨0, Nat.zero_le _, rfl, rfl, Fr.refl _ _⟩
  case round =>
    obtain ⟨j, hj, rfl, hG, hf⟩ := hrel
    by_cases hlt : j < l.length
    · obtain ⟨g, o, rfl, c0, c1, c2, c3, c4⟩ := ((unhide HX).1.fr hf).at_ j hlt
      have hvu := (unhide HX).2 l[j] (List.getElem_mem hlt)
      obtain ⟨⟨n, k, t, v, u⟩, hfe⟩ : ∃ f, l[j] = f := ⟨_, rfl⟩
      rw [hfe] at c0 c1 c2 c3 c4 hvu
      simp only at c0 c1 c2 c3 c4 hvu
      have HR := hide (And.intro hG hf)
      have HFl := hide (fun W => gfield_any n k t v u gone W hvu.1 hvu.2)
      have hkl : (j : Int) < (l.length : Int) := by omega
      have hgl : g < wr.heap.size := lt_of_cell c0
      have hS0 : ∀ W, Fr (fun _ => False) wr W → W.cell? ⟨g, o + j * 5, none⟩ = some (.string n) ∧ W.cell? ⟨g, o + j * 5 + 1, none⟩ = some (.int .u8 (k : Nat)) ∧ W.cell? ⟨g, o + j * 5 + 2, none⟩ = some (.string t) ∧ W.cell? ⟨g, o + j * 5 + 3, none⟩ = some (.float .f32 v) ∧ W.cell? ⟨g, o + j * 5 + 4, none⟩ = some (.int .u8 (u : Nat)) := fun W hW => ⟨(hW.cell (p := ⟨g, _, none⟩) hgl (fun h => h)).trans c0, (hW.cell (p := ⟨g, _, none⟩) hgl (fun h => h)).trans c1, (hW.cell (p := ⟨g, _, none⟩) hgl (fun h => h)).trans c2, (hW.cell (p := ⟨g, _, none⟩) hgl (fun h => h)).trans c3, (hW.cell (p := ⟨g, _, none⟩) hgl (fun h => h)).trans c4⟩
      cases hgf : gfld gone ⟨n, k, t, v, u⟩ with
      | false =>
        clear hG hf hvu
        have HQ := hide (show gat gone l j = false by rw [gat_step gone l j hlt, hfe, hgf]; rfl)
        have HS0 := hide hS0
        rw [hgf] at HFl
        clear hgf hfe hS0
        go_wp2_with fail
        refine wp_region_noPanic ?_
        refine wp_region_held_drew (S := (fun W => W.cell? ⟨g, o + j * 5, none⟩ = some (.string n) ∧ W.cell? ⟨g, o + j * 5 + 1, none⟩ = some (.int .u8 (k : Nat)) ∧ W.cell? ⟨g, o + j * 5 + 2, none⟩ = some (.string t) ∧ W.cell? ⟨g, o + j * 5 + 3, none⟩ = some (.float .f32 v) ∧ W.cell? ⟨g, o + j * 5 + 4, none⟩ = some (.int .u8 (u : Nat)))) (by kernel_rfl) ((unhide HS0) _ (Fr.refl _ _).drew) (fun hHeld => ?_)
        refine wpAnyH_take (i := 0) (v := ?_) rfl (by kernel_rfl) (by kernel_rfl) (by kernel_rfl) (fun _ _ _ h => h) (Or.inl ⟨by rfl, ?_⟩) hHeld ?_
        rotate_left
        · intro w hSw; (try dsimp only at hSw); go_simp; (try with_reducible rfl)
        (try simp only [Act.put, List.getElem_toArray, List.getElem_cons_zero, List.setIfInBounds_toArray, List.set_cons_zero, List.set_cons_succ])
        refine wpAnyH_take (i := 1) (v := ?_) rfl (by kernel_rfl) (by kernel_rfl) (by kernel_rfl) (fun _ _ _ h => h) (Or.inl ⟨by rfl, ?_⟩) hHeld ?_
        rotate_left
        · intro w hSw; (try dsimp only at hSw); go_simp; (try with_reducible rfl)
        (try simp only [Act.put, List.getElem_toArray, List.getElem_cons_zero, List.getElem_cons_succ, List.setIfInBounds_toArray, List.set_cons_zero, List.set_cons_succ])
        refine wpAnyH_take (i := 2) (v := ?_) rfl (by kernel_rfl) (by kernel_rfl) (by kernel_rfl) (fun _ _ _ h => h) (Or.inl ⟨by rfl, ?_⟩) hHeld ?_
        rotate_left
        · intro w hSw; (try dsimp only at hSw); go_simp; (try with_reducible rfl)
        (try simp only [Act.put, List.getElem_toArray, List.getElem_cons_zero, List.getElem_cons_succ, List.setIfInBounds_toArray, List.set_cons_zero, List.set_cons_succ])
        refine wpAnyH_take (i := 3) (v := ?_) rfl (by kernel_rfl) (by kernel_rfl) (by kernel_rfl) (fun _ _ _ h => h) (Or.inl ⟨by rfl, ?_⟩) hHeld ?_
        rotate_left
        · intro w hSw; (try dsimp only at hSw); go_simp; (try with_reducible rfl)
        (try simp only [Act.put, List.getElem_toArray, List.getElem_cons_zero, List.getElem_cons_succ, List.setIfInBounds_toArray, List.set_cons_zero, List.set_cons_succ])
        refine wpAnyH_take (i := 4) (v := ?_) rfl (by kernel_rfl) (by kernel_rfl) (by kernel_rfl) (fun _ _ _ h => h) (Or.inl ⟨by rfl, ?_⟩) hHeld ?_
        rotate_left
        · intro w hSw; (try dsimp only at hSw); go_simp; (try with_reducible rfl)
        (try simp only [Act.put, List.getElem_toArray, List.getElem_cons_zero, List.getElem_cons_succ, List.setIfInBounds_toArray, List.set_cons_zero, List.set_cons_succ])
        refine wpAnyH_ready (rs := [5]) (by kernel_rfl) (by simp) (AllReadyH.cons rfl (fun K hK => ?_) AllReadyH.nil)
        go_simp
        refine ((unhide HFl) _).mono ?_
        rintro e w2 ⟨rfl, hf2⟩
        have F2 := hide ((Fr.refl (fun _ => False) wr).drew.trans hf2 (fun _ _ h => h))
        clear hf2
        go_simp
        refine hK.out _ _ ((unhide HS0) _ (unhide F2)) (fun hHeld => ?_)
        clear hK K
        (try simp only [Act.put, List.getElem_toArray, List.getElem_cons_zero, List.getElem_cons_succ, List.setIfInBounds_toArray, List.set_cons_zero, List.set_cons_succ])
        refine wpAnyH_take (i := 6) (v := ?_) rfl (by kernel_rfl) (by kernel_rfl) (by kernel_rfl) (fun _ _ _ h => h) (Or.inl ⟨by rfl, ?_⟩) hHeld ?_
        rotate_left
        · intro w hSw; (try dsimp only at hSw); go_simp; (try with_reducible rfl)
        (try simp only [Act.put, List.getElem_toArray, List.getElem_cons_zero, List.getElem_cons_succ, List.setIfInBounds_toArray, List.set_cons_zero, List.set_cons_succ])
        refine wpAnyH_take (i := 7) (v := ?_) rfl (by kernel_rfl) (by kernel_rfl) (by kernel_rfl) (fun _ _ _ h => h) (Or.inl ⟨by rfl, ?_⟩) hHeld ?_
        rotate_left
        · intro w hSw; (try dsimp only at hSw); go_simp; (try with_reducible rfl)
        (try simp only [Act.put, List.getElem_toArray, List.getElem_cons_zero, List.getElem_cons_succ, List.setIfInBounds_toArray, List.set_cons_zero, List.set_cons_succ])
        refine wpAnyH_take (i := 8) (v := undef) rfl (by kernel_rfl) (by kernel_rfl) (by kernel_rfl) (fun _ _ _ h => h) (Or.inr ⟨by rfl, rfl⟩) hHeld ?_
        (try simp only [Act.put, List.getElem_toArray, List.getElem_cons_zero, List.getElem_cons_succ, List.setIfInBounds_toArray, List.set_cons_zero, List.set_cons_succ])
        refine wpAnyH_take (i := 9) (v := undef) rfl (by kernel_rfl) (by kernel_rfl) (by kernel_rfl) (fun _ _ _ h => h) (Or.inr ⟨by rfl, rfl⟩) hHeld ?_
        (try simp only [Act.put, List.getElem_toArray, List.getElem_cons_zero, List.getElem_cons_succ, List.setIfInBounds_toArray, List.set_cons_zero, List.set_cons_succ])
        refine wpAnyH_take (i := 10) (v := undef) rfl (by kernel_rfl) (by kernel_rfl) (by kernel_rfl) (fun _ _ _ h => h) (Or.inr ⟨by rfl, rfl⟩) hHeld ?_
        (try simp only [Act.put, List.getElem_toArray, List.getElem_cons_zero, List.getElem_cons_succ, List.setIfInBounds_toArray, List.set_cons_zero, List.set_cons_succ])
        refine wpAnyH_take (i := 11) (v := undef) rfl (by kernel_rfl) (by kernel_rfl) (by kernel_rfl) (fun _ _ _ h => h) (Or.inr ⟨by rfl, rfl⟩) hHeld ?_
        (try simp only [Act.put, List.getElem_toArray, List.getElem_cons_zero, List.getElem_cons_succ, List.setIfInBounds_toArray, List.set_cons_zero, List.set_cons_succ])
        refine wpAnyH_take (i := 12) (v := undef) rfl (by kernel_rfl) (by kernel_rfl) (by kernel_rfl) (fun _ _ _ h => h) (Or.inr ⟨by rfl, rfl⟩) hHeld ?_
        (try simp only [Act.put, List.getElem_toArray, List.getElem_cons_zero, List.getElem_cons_succ, List.setIfInBounds_toArray, List.set_cons_zero, List.set_cons_succ])
        refine wpAnyH_take (i := 13) (v := undef) rfl (by kernel_rfl) (by kernel_rfl) (by kernel_rfl) (fun _ _ _ h => h) (Or.inr ⟨by rfl, rfl⟩) hHeld ?_
        (try simp only [Act.put, List.getElem_toArray, List.getElem_cons_zero, List.getElem_cons_succ, List.setIfInBounds_toArray, List.set_cons_zero, List.set_cons_succ])
        refine wpAnyH_take (i := 14) (v := undef) rfl (by kernel_rfl) (by kernel_rfl) (by kernel_rfl) (fun _ _ _ h => h) (Or.inr ⟨by rfl, rfl⟩) hHeld ?_
        (try simp only [Act.put, List.getElem_toArray, List.getElem_cons_zero, List.getElem_cons_succ, List.setIfInBounds_toArray, List.set_cons_zero, List.set_cons_succ])
        refine wpAnyH_take (i := 15) (v := undef) rfl (by kernel_rfl) (by kernel_rfl) (by kernel_rfl) (fun _ _ _ h => h) (Or.inr ⟨by rfl, rfl⟩) hHeld ?_
        (try simp only [Act.put, List.getElem_toArray, List.getElem_cons_zero, List.getElem_cons_succ, List.setIfInBounds_toArray, List.set_cons_zero, List.set_cons_succ])
        refine wpAnyH_take (i := 16) (v := undef) rfl (by kernel_rfl) (by kernel_rfl) (by kernel_rfl) (fun _ _ _ h => h) (Or.inr ⟨by rfl, rfl⟩) hHeld ?_
        (try simp only [Act.put, List.getElem_toArray, List.getElem_cons_zero, List.getElem_cons_succ, List.setIfInBounds_toArray, List.set_cons_zero, List.set_cons_succ])
        refine wpAnyH_take (i := 17) (v := undef) rfl (by kernel_rfl) (by kernel_rfl) (by kernel_rfl) (fun _ _ _ h => h) (Or.inr ⟨by rfl, rfl⟩) hHeld ?_
        (try simp only [Act.put, List.getElem_toArray, List.getElem_cons_zero, List.getElem_cons_succ, List.setIfInBounds_toArray, List.set_cons_zero, List.set_cons_succ])
        refine wpAnyH_take (i := 18) (v := undef) rfl (by kernel_rfl) (by kernel_rfl) (by kernel_rfl) (fun _ _ _ h => h) (Or.inr ⟨by rfl, rfl⟩) hHeld ?_
        (try simp only [Act.put, List.getElem_toArray, List.getElem_cons_zero, List.getElem_cons_succ, List.setIfInBounds_toArray, List.set_cons_zero, List.set_cons_succ])
        refine wpAnyH_take (i := 19) (v := undef) rfl (by kernel_rfl) (by kernel_rfl) (by kernel_rfl) (fun _ _ _ h => h) (Or.inr ⟨by rfl, rfl⟩) hHeld ?_
        (try simp only [Act.put, List.getElem_toArray, List.getElem_cons_zero, List.getElem_cons_succ, List.setIfInBounds_toArray, List.set_cons_zero, List.set_cons_succ])
        refine wpAnyH_take (i := 20) (v := undef) rfl (by kernel_rfl) (by kernel_rfl) (by kernel_rfl) (fun _ _ _ h => h) (Or.inr ⟨by rfl, rfl⟩) hHeld ?_
        (try simp only [Act.put, List.getElem_toArray, List.getElem_cons_zero, List.getElem_cons_succ, List.setIfInBounds_toArray, List.set_cons_zero, List.set_cons_succ])
        refine wpAnyH_take (i := 21) (v := undef) rfl (by kernel_rfl) (by kernel_rfl) (by kernel_rfl) (fun _ _ _ h => h) (Or.inr ⟨by rfl, rfl⟩) hHeld ?_
        (try simp only [Act.put, List.getElem_toArray, List.getElem_cons_zero, List.getElem_cons_succ, List.setIfInBounds_toArray, List.set_cons_zero, List.set_cons_succ])
        refine wpAnyH_take (i := 22) (v := undef) rfl (by kernel_rfl) (by kernel_rfl) (by kernel_rfl) (fun _ _ _ h => h) (Or.inr ⟨by rfl, rfl⟩) hHeld ?_
        (try simp only [Act.put, List.getElem_toArray, List.getElem_cons_zero, List.getElem_cons_succ, List.setIfInBounds_toArray, List.set_cons_zero, List.set_cons_succ])
        refine wpAnyH_take (i := 23) (v := undef) rfl (by kernel_rfl) (by kernel_rfl) (by kernel_rfl) (fun _ _ _ h => h) (Or.inr ⟨by rfl, rfl⟩) hHeld ?_
        (try simp only [Act.put, List.getElem_toArray, List.getElem_cons_zero, List.getElem_cons_succ, List.setIfInBounds_toArray, List.set_cons_zero, List.set_cons_succ])
        refine wpAnyH_take (i := 24) (v := undef) rfl (by kernel_rfl) (by kernel_rfl) (by kernel_rfl) (fun _ _ _ h => h) (Or.inr ⟨by rfl, rfl⟩) hHeld ?_
        (try simp only [Act.put, List.getElem_toArray, List.getElem_cons_zero, List.getElem_cons_succ, List.setIfInBounds_toArray, List.set_cons_zero, List.set_cons_succ])
        refine wpAnyH_take (i := 25) (v := ?_) rfl (by kernel_rfl) (by kernel_rfl) (by kernel_rfl) (fun _ _ _ h => h) (Or.inl ⟨by rfl, ?_⟩) hHeld ?_
        rotate_left
        · intro w hSw; (try dsimp only at hSw); go_simp; (try with_reducible rfl)
        (try simp only [Act.put, List.getElem_toArray, List.getElem_cons_zero, List.getElem_cons_succ, List.setIfInBounds_toArray, List.set_cons_zero, List.set_cons_succ])
        refine wpAnyH_done (by kernel_rfl) ?_ _
        refine NoPanic.normal ?_
        clear HFl HS0
        go_wp2_with fail
        go_ret
        have hv0 : fdsB l gone = false := by rw [← gfds_eq, (unhide HR).1, unhide HQ]; rfl
        exact ⟨congrArg (fun b => Ending.returned (.bool b)) hv0.symm, (unhide HR).2.trans (unhide F2) (fun _ _ h => h)⟩
      | true =>
        by_cases hj0 : j = 0
        · clear hG hf hvu
          have HQ := hide (show gat gone l j = gat gone l (j + 1) by rw [gat_step gone l j hlt, hfe, hgf, dif_pos hj0]; simp)
          have j1 : decide ((0 : Int) < (j : Int)) = false := decide_eq_false (by omega)
          have j2 : decide (0 < j) = false := decide_eq_false (by omega)
          have j3 : ¬ 0 < j := by omega
          clear hj0
          have HS0 := hide hS0
          rw [hgf] at HFl
          clear hgf hfe hS0
          go_wp2_with fail
          refine wp_region_noPanic ?_
          refine wp_region_held_drew (S := (fun W => W.cell? ⟨g, o + j * 5, none⟩ = some (.string n) ∧ W.cell? ⟨g, o + j * 5 + 1, none⟩ = some (.int .u8 (k : Nat)) ∧ W.cell? ⟨g, o + j * 5 + 2, none⟩ = some (.string t) ∧ W.cell? ⟨g, o + j * 5 + 3, none⟩ = some (.float .f32 v) ∧ W.cell? ⟨g, o + j * 5 + 4, none⟩ = some (.int .u8 (u : Nat)))) (by kernel_rfl) ((unhide HS0) _ (Fr.refl _ _).drew) (fun hHeld => ?_)
          refine wpAnyH_take (i := 0) (v := ?_) rfl (by kernel_rfl) (by kernel_rfl) (by kernel_rfl) (fun _ _ _ h => h) (Or.inl ⟨by rfl, ?_⟩) hHeld ?_
          rotate_left
          · intro w hSw; (try dsimp only at hSw); go_simp; (try with_reducible rfl)
          (try simp only [Act.put, List.getElem_toArray, List.getElem_cons_zero, List.setIfInBounds_toArray, List.set_cons_zero, List.set_cons_succ])
          refine wpAnyH_take (i := 1) (v := ?_) rfl (by kernel_rfl) (by kernel_rfl) (by kernel_rfl) (fun _ _ _ h => h) (Or.inl ⟨by rfl, ?_⟩) hHeld ?_
          rotate_left
          · intro w hSw; (try dsimp only at hSw); go_simp; (try with_reducible rfl)
          (try simp only [Act.put, List.getElem_toArray, List.getElem_cons_zero, List.getElem_cons_succ, List.setIfInBounds_toArray, List.set_cons_zero, List.set_cons_succ])
          refine wpAnyH_take (i := 2) (v := ?_) rfl (by kernel_rfl) (by kernel_rfl) (by kernel_rfl) (fun _ _ _ h => h) (Or.inl ⟨by rfl, ?_⟩) hHeld ?_
          rotate_left
          · intro w hSw; (try dsimp only at hSw); go_simp; (try with_reducible rfl)
          (try simp only [Act.put, List.getElem_toArray, List.getElem_cons_zero, List.getElem_cons_succ, List.setIfInBounds_toArray, List.set_cons_zero, List.set_cons_succ])
          refine wpAnyH_take (i := 3) (v := ?_) rfl (by kernel_rfl) (by kernel_rfl) (by kernel_rfl) (fun _ _ _ h => h) (Or.inl ⟨by rfl, ?_⟩) hHeld ?_
          rotate_left
          · intro w hSw; (try dsimp only at hSw); go_simp; (try with_reducible rfl)
          (try simp only [Act.put, List.getElem_toArray, List.getElem_cons_zero, List.getElem_cons_succ, List.setIfInBounds_toArray, List.set_cons_zero, List.set_cons_succ])
          refine wpAnyH_take (i := 4) (v := ?_) rfl (by kernel_rfl) (by kernel_rfl) (by kernel_rfl) (fun _ _ _ h => h) (Or.inl ⟨by rfl, ?_⟩) hHeld ?_
          rotate_left
          · intro w hSw; (try dsimp only at hSw); go_simp; (try with_reducible rfl)
          (try simp only [Act.put, List.getElem_toArray, List.getElem_cons_zero, List.getElem_cons_succ, List.setIfInBounds_toArray, List.set_cons_zero, List.set_cons_succ])
          refine wpAnyH_ready (rs := [5]) (by kernel_rfl) (by simp) (AllReadyH.cons rfl (fun K hK => ?_) AllReadyH.nil)
          go_simp
          refine ((unhide HFl) _).mono ?_
          rintro e w2 ⟨rfl, hf2⟩
          have F2 := hide ((Fr.refl (fun _ => False) wr).drew.trans hf2 (fun _ _ h => h))
          clear hf2
          go_simp
          refine hK.out _ _ ((unhide HS0) _ (unhide F2)) (fun hHeld => ?_)
          clear hK K
          (try simp only [Act.put, List.getElem_toArray, List.getElem_cons_zero, List.getElem_cons_succ, List.setIfInBounds_toArray, List.set_cons_zero, List.set_cons_succ])
          refine wpAnyH_take (i := 6) (v := ?_) rfl (by kernel_rfl) (by kernel_rfl) (by kernel_rfl) (fun _ _ _ h => h) (Or.inl ⟨by rfl, ?_⟩) hHeld ?_
          rotate_left
          · intro w hSw; (try dsimp only at hSw); go_simp; (try with_reducible rfl)
          (try simp only [Act.put, List.getElem_toArray, List.getElem_cons_zero, List.getElem_cons_succ, List.setIfInBounds_toArray, List.set_cons_zero, List.set_cons_succ])
          refine wpAnyH_take (i := 7) (v := ?_) rfl (by kernel_rfl) (by kernel_rfl) (by kernel_rfl) (fun _ _ _ h => h) (Or.inl ⟨by rfl, ?_⟩) hHeld ?_
          rotate_left
          · intro w hSw; (try dsimp only at hSw); go_simp; (try with_reducible rfl)
          (try simp only [Act.put, List.getElem_toArray, List.getElem_cons_zero, List.getElem_cons_succ, List.setIfInBounds_toArray, List.set_cons_zero, List.set_cons_succ])
          refine wpAnyH_take (i := 8) (v := ?_) rfl (by kernel_rfl) (by kernel_rfl) (by kernel_rfl) (fun _ _ _ h => h) (Or.inl ⟨by rfl, ?_⟩) hHeld ?_
          rotate_left
          · intro w hSw; (try dsimp only at hSw); go_simp; (try with_reducible rfl)
          (try simp only [Act.put, List.getElem_toArray, List.getElem_cons_zero, List.getElem_cons_succ, List.setIfInBounds_toArray, List.set_cons_zero, List.set_cons_succ])
          refine wpAnyH_take (i := 9) (v := ?_) rfl (by kernel_rfl) (by kernel_rfl) (by kernel_rfl) (fun _ _ _ h => h) (Or.inl ⟨by rfl, ?_⟩) hHeld ?_
          rotate_left
          · intro w hSw; (try dsimp only at hSw); go_simp; (try with_reducible rfl)
          (try simp only [Act.put, List.getElem_toArray, List.getElem_cons_zero, List.getElem_cons_succ, List.setIfInBounds_toArray, List.set_cons_zero, List.set_cons_succ])
          refine wpAnyH_take (i := 10) (v := ?_) rfl (by kernel_rfl) (by kernel_rfl) (by kernel_rfl) (fun _ _ _ h => h) (Or.inl ⟨by rfl, ?_⟩) hHeld ?_
          rotate_left
          · intro w hSw; (try dsimp only at hSw); go_simp; (try with_reducible rfl)
          (try simp only [Act.put, List.getElem_toArray, List.getElem_cons_zero, List.getElem_cons_succ, List.setIfInBounds_toArray, List.set_cons_zero, List.set_cons_succ])
          refine wpAnyH_take (i := 11) (v := undef) rfl (by kernel_rfl) (by kernel_rfl) (by kernel_rfl) (fun _ _ _ h => h) (Or.inr ⟨by rfl, rfl⟩) hHeld ?_
          (try simp only [Act.put, List.getElem_toArray, List.getElem_cons_zero, List.getElem_cons_succ, List.setIfInBounds_toArray, List.set_cons_zero, List.set_cons_succ])
          refine wpAnyH_take (i := 12) (v := undef) rfl (by kernel_rfl) (by kernel_rfl) (by kernel_rfl) (fun _ _ _ h => h) (Or.inr ⟨by rfl, rfl⟩) hHeld ?_
          (try simp only [Act.put, List.getElem_toArray, List.getElem_cons_zero, List.getElem_cons_succ, List.setIfInBounds_toArray, List.set_cons_zero, List.set_cons_succ])
          refine wpAnyH_take (i := 13) (v := undef) rfl (by kernel_rfl) (by kernel_rfl) (by kernel_rfl) (fun _ _ _ h => h) (Or.inr ⟨by rfl, rfl⟩) hHeld ?_
          (try simp only [Act.put, List.getElem_toArray, List.getElem_cons_zero, List.getElem_cons_succ, List.setIfInBounds_toArray, List.set_cons_zero, List.set_cons_succ])
          refine wpAnyH_take (i := 14) (v := undef) rfl (by kernel_rfl) (by kernel_rfl) (by kernel_rfl) (fun _ _ _ h => h) (Or.inr ⟨by rfl, rfl⟩) hHeld ?_
          (try simp only [Act.put, List.getElem_toArray, List.getElem_cons_zero, List.getElem_cons_succ, List.setIfInBounds_toArray, List.set_cons_zero, List.set_cons_succ])
          refine wpAnyH_take (i := 15) (v := undef) rfl (by kernel_rfl) (by kernel_rfl) (by kernel_rfl) (fun _ _ _ h => h) (Or.inr ⟨by rfl, rfl⟩) hHeld ?_
          (try simp only [Act.put, List.getElem_toArray, List.getElem_cons_zero, List.getElem_cons_succ, List.setIfInBounds_toArray, List.set_cons_zero, List.set_cons_succ])
          refine wpAnyH_take (i := 16) (v := undef) rfl (by kernel_rfl) (by kernel_rfl) (by kernel_rfl) (fun _ _ _ h => h) (Or.inr ⟨by rfl, rfl⟩) hHeld ?_
          (try simp only [Act.put, List.getElem_toArray, List.getElem_cons_zero, List.getElem_cons_succ, List.setIfInBounds_toArray, List.set_cons_zero, List.set_cons_succ])
          refine wpAnyH_take (i := 17) (v := undef) rfl (by kernel_rfl) (by kernel_rfl) (by kernel_rfl) (fun _ _ _ h => h) (Or.inr ⟨by rfl, rfl⟩) hHeld ?_
          (try simp only [Act.put, List.getElem_toArray, List.getElem_cons_zero, List.getElem_cons_succ, List.setIfInBounds_toArray, List.set_cons_zero, List.set_cons_succ])
          refine wpAnyH_take (i := 18) (v := undef) rfl (by kernel_rfl) (by kernel_rfl) (by kernel_rfl) (fun _ _ _ h => h) (Or.inr ⟨by rfl, rfl⟩) hHeld ?_
          (try simp only [Act.put, List.getElem_toArray, List.getElem_cons_zero, List.getElem_cons_succ, List.setIfInBounds_toArray, List.set_cons_zero, List.set_cons_succ])
          refine wpAnyH_take (i := 19) (v := undef) rfl (by kernel_rfl) (by kernel_rfl) (by kernel_rfl) (fun _ _ _ h => h) (Or.inr ⟨by rfl, rfl⟩) hHeld ?_
          (try simp only [Act.put, List.getElem_toArray, List.getElem_cons_zero, List.getElem_cons_succ, List.setIfInBounds_toArray, List.set_cons_zero, List.set_cons_succ])
          refine wpAnyH_take (i := 20) (v := undef) rfl (by kernel_rfl) (by kernel_rfl) (by kernel_rfl) (fun _ _ _ h => h) (Or.inr ⟨by rfl, rfl⟩) hHeld ?_
          (try simp only [Act.put, List.getElem_toArray, List.getElem_cons_zero, List.getElem_cons_succ, List.setIfInBounds_toArray, List.set_cons_zero, List.set_cons_succ])
          refine wpAnyH_take (i := 21) (v := undef) rfl (by kernel_rfl) (by kernel_rfl) (by kernel_rfl) (fun _ _ _ h => h) (Or.inr ⟨by rfl, rfl⟩) hHeld ?_
          (try simp only [Act.put, List.getElem_toArray, List.getElem_cons_zero, List.getElem_cons_succ, List.setIfInBounds_toArray, List.set_cons_zero, List.set_cons_succ])
          refine wpAnyH_take (i := 22) (v := undef) rfl (by kernel_rfl) (by kernel_rfl) (by kernel_rfl) (fun _ _ _ h => h) (Or.inr ⟨by rfl, rfl⟩) hHeld ?_
          (try simp only [Act.put, List.getElem_toArray, List.getElem_cons_zero, List.getElem_cons_succ, List.setIfInBounds_toArray, List.set_cons_zero, List.set_cons_succ])
          refine wpAnyH_take (i := 23) (v := undef) rfl (by kernel_rfl) (by kernel_rfl) (by kernel_rfl) (fun _ _ _ h => h) (Or.inr ⟨by rfl, rfl⟩) hHeld ?_
          (try simp only [Act.put, List.getElem_toArray, List.getElem_cons_zero, List.getElem_cons_succ, List.setIfInBounds_toArray, List.set_cons_zero, List.set_cons_succ])
          refine wpAnyH_take (i := 24) (v := ?_) rfl (by kernel_rfl) (by kernel_rfl) (by kernel_rfl) (fun _ _ _ h => h) (Or.inl ⟨by rfl, ?_⟩) hHeld ?_
          rotate_left
          · intro w hSw; (try dsimp only at hSw); go_simp; (try with_reducible rfl)
          (try simp only [Act.put, List.getElem_toArray, List.getElem_cons_zero, List.getElem_cons_succ, List.setIfInBounds_toArray, List.set_cons_zero, List.set_cons_succ])
          refine wpAnyH_take (i := 25) (v := ?_) rfl (by kernel_rfl) (by kernel_rfl) (by kernel_rfl) (fun _ _ _ h => h) (Or.inl ⟨by rfl, ?_⟩) hHeld ?_
          rotate_left
          · intro w hSw; (try dsimp only at hSw); go_simp; (try with_reducible rfl)
          (try simp only [Act.put, List.getElem_toArray, List.getElem_cons_zero, List.getElem_cons_succ, List.setIfInBounds_toArray, List.set_cons_zero, List.set_cons_succ])
          refine wpAnyH_done (by kernel_rfl) ?_ _
          refine NoPanic.normal ?_
          clear HFl HS0
          go_wp2_with fail
          go_roundw
          case rel => exact ⟨j + 1, hlt, by go_num, by rw [(unhide HR).1, unhide HQ], (unhide HR).2.trans (unhide F2) (fun _ _ h => h)⟩
          case measure => simp [intOf]; omega
        · obtain ⟨i, he⟩ : ∃ i, j - 1 = i := ⟨_, rfl⟩
          have hil : i < l.length := by omega
          obtain ⟨g', o', e', p0, _⟩ := ((unhide HX).1.fr hf).at_ i hil
          cases e'
          obtain ⟨p, hp⟩ : ∃ p, l[i].n = p := ⟨_, rfl⟩
          rw [hp] at p0
          have hS1 : ∀ W, Fr (fun _ => False) wr W → (W.cell? ⟨g, o + j * 5, none⟩ = some (.string n) ∧ W.cell? ⟨g, o + j * 5 + 1, none⟩ = some (.int .u8 (k : Nat)) ∧ W.cell? ⟨g, o + j * 5 + 2, none⟩ = some (.string t) ∧ W.cell? ⟨g, o + j * 5 + 3, none⟩ = some (.float .f32 v) ∧ W.cell? ⟨g, o + j * 5 + 4, none⟩ = some (.int .u8 (u : Nat))) ∧ W.cell? ⟨g, o + i * 5, none⟩ = some (.string p) := fun W hW => ⟨hS0 W hW, (hW.cell (p := ⟨g, _, none⟩) hgl (fun h => h)).trans p0⟩
          have hji : (j : Int) - 1 = (i : Int) := by omega
          have hwi : IntKind.i64.wrap (i : Int) = (i : Int) := by rw [IntKind.wrap_i64]; omega
          have hil2 : (i : Int) < (l.length : Int) := by omega
          have hj1 : (0 : Int) < (j : Int) := by omega
          have hj2 : 0 < j := by omega
          have hj3 : decide (0 < j) = true := decide_eq_true hj2
          have hj4 : decide ((0 : Int) < (j : Int)) = true := decide_eq_true hj1
          clear hG hf hvu hS0
          cases hb : Op.bytesLess p.toList n.toList with
          | false =>
            have HQ := hide (show gat gone l j = false by rw [gat_step gone l j hlt, hfe, hgf, dif_neg hj0]; simp only [he]; rw [hp, hb]; simp)
            have HS1 := hide hS1
            rw [hgf] at HFl
            clear hgf hfe hS1 hp
            go_wp2_with fail
            refine wp_region_noPanic ?_
            refine wp_region_held_drew (S := (fun W => (W.cell? ⟨g, o + j * 5, none⟩ = some (.string n) ∧ W.cell? ⟨g, o + j * 5 + 1, none⟩ = some (.int .u8 (k : Nat)) ∧ W.cell? ⟨g, o + j * 5 + 2, none⟩ = some (.string t) ∧ W.cell? ⟨g, o + j * 5 + 3, none⟩ = some (.float .f32 v) ∧ W.cell? ⟨g, o + j * 5 + 4, none⟩ = some (.int .u8 (u : Nat))) ∧ W.cell? ⟨g, o + i * 5, none⟩ = some (.string p))) (by kernel_rfl) ((unhide HS1) _ (Fr.refl _ _).drew) (fun hHeld => ?_)
            refine wpAnyH_take (i := 0) (v := ?_) rfl (by kernel_rfl) (by kernel_rfl) (by kernel_rfl) (fun _ _ _ h => h) (Or.inl ⟨by rfl, ?_⟩) hHeld ?_
            rotate_left
            · intro w hSw; (try dsimp only at hSw); go_simp; (try with_reducible rfl)
            (try simp only [Act.put, List.getElem_toArray, List.getElem_cons_zero, List.setIfInBounds_toArray, List.set_cons_zero, List.set_cons_succ])
            refine wpAnyH_take (i := 1) (v := ?_) rfl (by kernel_rfl) (by kernel_rfl) (by kernel_rfl) (fun _ _ _ h => h) (Or.inl ⟨by rfl, ?_⟩) hHeld ?_
            rotate_left
            · intro w hSw; (try dsimp only at hSw); go_simp; (try with_reducible rfl)
            (try simp only [Act.put, List.getElem_toArray, List.getElem_cons_zero, List.getElem_cons_succ, List.setIfInBounds_toArray, List.set_cons_zero, List.set_cons_succ])
            refine wpAnyH_take (i := 2) (v := ?_) rfl (by kernel_rfl) (by kernel_rfl) (by kernel_rfl) (fun _ _ _ h => h) (Or.inl ⟨by rfl, ?_⟩) hHeld ?_
            rotate_left
            · intro w hSw; (try dsimp only at hSw); go_simp; (try with_reducible rfl)
            (try simp only [Act.put, List.getElem_toArray, List.getElem_cons_zero, List.getElem_cons_succ, List.setIfInBounds_toArray, List.set_cons_zero, List.set_cons_succ])
            refine wpAnyH_take (i := 3) (v := ?_) rfl (by kernel_rfl) (by kernel_rfl) (by kernel_rfl) (fun _ _ _ h => h) (Or.inl ⟨by rfl, ?_⟩) hHeld ?_
            rotate_left
            · intro w hSw; (try dsimp only at hSw); go_simp; (try with_reducible rfl)
            (try simp only [Act.put, List.getElem_toArray, List.getElem_cons_zero, List.getElem_cons_succ, List.setIfInBounds_toArray, List.set_cons_zero, List.set_cons_succ])
            refine wpAnyH_take (i := 4) (v := ?_) rfl (by kernel_rfl) (by kernel_rfl) (by kernel_rfl) (fun _ _ _ h => h) (Or.inl ⟨by rfl, ?_⟩) hHeld ?_
            rotate_left
            · intro w hSw; (try dsimp only at hSw); go_simp; (try with_reducible rfl)
            (try simp only [Act.put, List.getElem_toArray, List.getElem_cons_zero, List.getElem_cons_succ, List.setIfInBounds_toArray, List.set_cons_zero, List.set_cons_succ])
            refine wpAnyH_ready (rs := [5]) (by kernel_rfl) (by simp) (AllReadyH.cons rfl (fun K hK => ?_) AllReadyH.nil)
            go_simp
            refine ((unhide HFl) _).mono ?_
            rintro e w2 ⟨rfl, hf2⟩
            have F2 := hide ((Fr.refl (fun _ => False) wr).drew.trans hf2 (fun _ _ h => h))
            clear hf2
            go_simp
            refine hK.out _ _ ((unhide HS1) _ (unhide F2)) (fun hHeld => ?_)
            clear hK K
            (try simp only [Act.put, List.getElem_toArray, List.getElem_cons_zero, List.getElem_cons_succ, List.setIfInBounds_toArray, List.set_cons_zero, List.set_cons_succ])
            refine wpAnyH_take (i := 6) (v := ?_) rfl (by kernel_rfl) (by kernel_rfl) (by kernel_rfl) (fun _ _ _ h => h) (Or.inl ⟨by rfl, ?_⟩) hHeld ?_
            rotate_left
            · intro w hSw; (try dsimp only at hSw); go_simp; (try with_reducible rfl)
            (try simp only [Act.put, List.getElem_toArray, List.getElem_cons_zero, List.getElem_cons_succ, List.setIfInBounds_toArray, List.set_cons_zero, List.set_cons_succ])
            refine wpAnyH_take (i := 7) (v := ?_) rfl (by kernel_rfl) (by kernel_rfl) (by kernel_rfl) (fun _ _ _ h => h) (Or.inl ⟨by rfl, ?_⟩) hHeld ?_
            rotate_left
            · intro w hSw; (try dsimp only at hSw); go_simp; (try with_reducible rfl)
            (try simp only [Act.put, List.getElem_toArray, List.getElem_cons_zero, List.getElem_cons_succ, List.setIfInBounds_toArray, List.set_cons_zero, List.set_cons_succ])
            refine wpAnyH_take (i := 8) (v := ?_) rfl (by kernel_rfl) (by kernel_rfl) (by kernel_rfl) (fun _ _ _ h => h) (Or.inl ⟨by rfl, ?_⟩) hHeld ?_
            rotate_left
            · intro w hSw; (try dsimp only at hSw); go_simp; (try with_reducible rfl)
            (try simp only [Act.put, List.getElem_toArray, List.getElem_cons_zero, List.getElem_cons_succ, List.setIfInBounds_toArray, List.set_cons_zero, List.set_cons_succ])
            refine wpAnyH_take (i := 9) (v := ?_) rfl (by kernel_rfl) (by kernel_rfl) (by kernel_rfl) (fun _ _ _ h => h) (Or.inl ⟨by rfl, ?_⟩) hHeld ?_
            rotate_left
            · intro w hSw; (try dsimp only at hSw); go_simp; (try with_reducible rfl)
            (try simp only [Act.put, List.getElem_toArray, List.getElem_cons_zero, List.getElem_cons_succ, List.setIfInBounds_toArray, List.set_cons_zero, List.set_cons_succ])
            refine wpAnyH_take (i := 10) (v := ?_) rfl (by kernel_rfl) (by kernel_rfl) (by kernel_rfl) (fun _ _ _ h => h) (Or.inl ⟨by rfl, ?_⟩) hHeld ?_
            rotate_left
            · intro w hSw; (try dsimp only at hSw); go_simp; (try with_reducible rfl)
            (try simp only [Act.put, List.getElem_toArray, List.getElem_cons_zero, List.getElem_cons_succ, List.setIfInBounds_toArray, List.set_cons_zero, List.set_cons_succ])
            refine wpAnyH_take (i := 11) (v := ?_) rfl (by kernel_rfl) (by kernel_rfl) (by kernel_rfl) (fun _ _ _ h => h) (Or.inl ⟨by rfl, ?_⟩) hHeld ?_
            rotate_left
            · intro w hSw; (try dsimp only at hSw); go_simp; (try with_reducible rfl)
            (try simp only [Act.put, List.getElem_toArray, List.getElem_cons_zero, List.getElem_cons_succ, List.setIfInBounds_toArray, List.set_cons_zero, List.set_cons_succ])
            refine wpAnyH_take (i := 12) (v := ?_) rfl (by kernel_rfl) (by kernel_rfl) (by kernel_rfl) (fun _ _ _ h => h) (Or.inl ⟨by rfl, ?_⟩) hHeld ?_
            rotate_left
            · intro w hSw; (try dsimp only at hSw); go_simp; (try with_reducible rfl)
            (try simp only [Act.put, List.getElem_toArray, List.getElem_cons_zero, List.getElem_cons_succ, List.setIfInBounds_toArray, List.set_cons_zero, List.set_cons_succ])
            refine wpAnyH_take (i := 13) (v := ?_) rfl (by kernel_rfl) (by kernel_rfl) (by kernel_rfl) (fun _ _ _ h => h) (Or.inl ⟨by rfl, ?_⟩) hHeld ?_
            rotate_left
            · intro w hSw; (try dsimp only at hSw); go_simp; (try with_reducible rfl)
            (try simp only [Act.put, List.getElem_toArray, List.getElem_cons_zero, List.getElem_cons_succ, List.setIfInBounds_toArray, List.set_cons_zero, List.set_cons_succ])
            refine wpAnyH_take (i := 14) (v := ?_) rfl (by kernel_rfl) (by kernel_rfl) (by kernel_rfl) (fun _ _ _ h => h) (Or.inl ⟨by rfl, ?_⟩) hHeld ?_
            rotate_left
            · intro w hSw; (try dsimp only at hSw); go_simp; (try with_reducible rfl)
            (try simp only [Act.put, List.getElem_toArray, List.getElem_cons_zero, List.getElem_cons_succ, List.setIfInBounds_toArray, List.set_cons_zero, List.set_cons_succ])
            refine wpAnyH_take (i := 15) (v := ?_) rfl (by kernel_rfl) (by kernel_rfl) (by kernel_rfl) (fun _ _ _ h => h) (Or.inl ⟨by rfl, ?_⟩) hHeld ?_
            rotate_left
            · intro w hSw; (try dsimp only at hSw); go_simp; (try with_reducible rfl)
            (try simp only [Act.put, List.getElem_toArray, List.getElem_cons_zero, List.getElem_cons_succ, List.setIfInBounds_toArray, List.set_cons_zero, List.set_cons_succ])
            refine wpAnyH_take (i := 16) (v := ?_) rfl (by kernel_rfl) (by kernel_rfl) (by kernel_rfl) (fun _ _ _ h => h) (Or.inl ⟨by rfl, ?_⟩) hHeld ?_
            rotate_left
            · intro w hSw; (try dsimp only at hSw); go_simp; (try with_reducible rfl)
            (try simp only [Act.put, List.getElem_toArray, List.getElem_cons_zero, List.getElem_cons_succ, List.setIfInBounds_toArray, List.set_cons_zero, List.set_cons_succ])
            refine wpAnyH_take (i := 17) (v := ?_) rfl (by kernel_rfl) (by kernel_rfl) (by kernel_rfl) (fun _ _ _ h => h) (Or.inl ⟨by rfl, ?_⟩) hHeld ?_
            rotate_left
            · intro w hSw; (try dsimp only at hSw); go_simp; (try with_reducible rfl)
            (try simp only [Act.put, List.getElem_toArray, List.getElem_cons_zero, List.getElem_cons_succ, List.setIfInBounds_toArray, List.set_cons_zero, List.set_cons_succ])
            refine wpAnyH_take (i := 18) (v := ?_) rfl (by kernel_rfl) (by kernel_rfl) (by kernel_rfl) (fun _ _ _ h => h) (Or.inl ⟨by rfl, ?_⟩) hHeld ?_
            rotate_left
            · intro w hSw; (try dsimp only at hSw); go_simp; (try with_reducible rfl)
            (try simp only [Act.put, List.getElem_toArray, List.getElem_cons_zero, List.getElem_cons_succ, List.setIfInBounds_toArray, List.set_cons_zero, List.set_cons_succ])
            refine wpAnyH_take (i := 19) (v := ?_) rfl (by kernel_rfl) (by kernel_rfl) (by kernel_rfl) (fun _ _ _ h => h) (Or.inl ⟨by rfl, ?_⟩) hHeld ?_
            rotate_left
            · intro w hSw; (try dsimp only at hSw); go_simp; (try with_reducible rfl)
            (try simp only [Act.put, List.getElem_toArray, List.getElem_cons_zero, List.getElem_cons_succ, List.setIfInBounds_toArray, List.set_cons_zero, List.set_cons_succ])
            refine wpAnyH_take (i := 20) (v := ?_) rfl (by kernel_rfl) (by kernel_rfl) (by kernel_rfl) (fun _ _ _ h => h) (Or.inl ⟨by rfl, ?_⟩) hHeld ?_
            rotate_left
            · intro w hSw; (try dsimp only at hSw); go_simp; (try with_reducible rfl)
            (try simp only [Act.put, List.getElem_toArray, List.getElem_cons_zero, List.getElem_cons_succ, List.setIfInBounds_toArray, List.set_cons_zero, List.set_cons_succ])
            refine wpAnyH_take (i := 21) (v := ?_) rfl (by kernel_rfl) (by kernel_rfl) (by kernel_rfl) (fun _ _ _ h => h) (Or.inl ⟨by rfl, ?_⟩) hHeld ?_
            rotate_left
            · intro w hSw; (try dsimp only at hSw); go_simp; (try with_reducible rfl)
            (try simp only [Act.put, List.getElem_toArray, List.getElem_cons_zero, List.getElem_cons_succ, List.setIfInBounds_toArray, List.set_cons_zero, List.set_cons_succ])
            refine wpAnyH_take (i := 22) (v := ?_) rfl (by kernel_rfl) (by kernel_rfl) (by kernel_rfl) (fun _ _ _ h => h) (Or.inl ⟨by rfl, ?_⟩) hHeld ?_
            rotate_left
            · intro w hSw; (try dsimp only at hSw); go_simp; (try with_reducible rfl)
            (try simp only [Act.put, List.getElem_toArray, List.getElem_cons_zero, List.getElem_cons_succ, List.setIfInBounds_toArray, List.set_cons_zero, List.set_cons_succ])
            refine wpAnyH_take (i := 23) (v := ?_) rfl (by kernel_rfl) (by kernel_rfl) (by kernel_rfl) (fun _ _ _ h => h) (Or.inl ⟨by rfl, ?_⟩) hHeld ?_
            rotate_left
            · intro w hSw; (try dsimp only at hSw); go_simp; (try with_reducible rfl)
            (try simp only [Act.put, List.getElem_toArray, List.getElem_cons_zero, List.getElem_cons_succ, List.setIfInBounds_toArray, List.set_cons_zero, List.set_cons_succ])
            refine wpAnyH_take (i := 24) (v := ?_) rfl (by kernel_rfl) (by kernel_rfl) (by kernel_rfl) (fun _ _ _ h => h) (Or.inl ⟨by rfl, ?_⟩) hHeld ?_
            rotate_left
            · intro w hSw; (try dsimp only at hSw); go_simp; (try with_reducible rfl)
            (try simp only [Act.put, List.getElem_toArray, List.getElem_cons_zero, List.getElem_cons_succ, List.setIfInBounds_toArray, List.set_cons_zero, List.set_cons_succ])
            refine wpAnyH_take (i := 25) (v := ?_) rfl (by kernel_rfl) (by kernel_rfl) (by kernel_rfl) (fun _ _ _ h => h) (Or.inl ⟨by rfl, ?_⟩) hHeld ?_
            rotate_left
            · intro w hSw; (try dsimp only at hSw); go_simp; (try with_reducible rfl)
            (try simp only [Act.put, List.getElem_toArray, List.getElem_cons_zero, List.getElem_cons_succ, List.setIfInBounds_toArray, List.set_cons_zero, List.set_cons_succ])
            refine wpAnyH_done (by kernel_rfl) ?_ _
            refine NoPanic.normal ?_
            clear HFl HS1
            go_wp2_with fail
            go_ret
            have hv0 : fdsB l gone = false := by rw [← gfds_eq, (unhide HR).1, unhide HQ]; rfl
            exact ⟨congrArg (fun b => Ending.returned (.bool b)) hv0.symm, (unhide HR).2.trans (unhide F2) (fun _ _ h => h)⟩
          | true =>
            have HQ := hide (show gat gone l j = gat gone l (j + 1) by rw [gat_step gone l j hlt, hfe, hgf, dif_neg hj0]; simp only [he]; rw [hp, hb]; simp)
            have HS1 := hide hS1
            rw [hgf] at HFl
            clear hgf hfe hS1 hp
            go_wp2_with fail
            refine wp_region_noPanic ?_
            refine wp_region_held_drew (S := (fun W => (W.cell? ⟨g, o + j * 5, none⟩ = some (.string n) ∧ W.cell? ⟨g, o + j * 5 + 1, none⟩ = some (.int .u8 (k : Nat)) ∧ W.cell? ⟨g, o + j * 5 + 2, none⟩ = some (.string t) ∧ W.cell? ⟨g, o + j * 5 + 3, none⟩ = some (.float .f32 v) ∧ W.cell? ⟨g, o + j * 5 + 4, none⟩ = some (.int .u8 (u : Nat))) ∧ W.cell? ⟨g, o + i * 5, none⟩ = some (.string p))) (by kernel_rfl) ((unhide HS1) _ (Fr.refl _ _).drew) (fun hHeld => ?_)
            refine wpAnyH_take (i := 0) (v := ?_) rfl (by kernel_rfl) (by kernel_rfl) (by kernel_rfl) (fun _ _ _ h => h) (Or.inl ⟨by rfl, ?_⟩) hHeld ?_
            rotate_left
            · intro w hSw; (try dsimp only at hSw); go_simp; (try with_reducible rfl)
            (try simp only [Act.put, List.getElem_toArray, List.getElem_cons_zero, List.setIfInBounds_toArray, List.set_cons_zero, List.set_cons_succ])
            refine wpAnyH_take (i := 1) (v := ?_) rfl (by kernel_rfl) (by kernel_rfl) (by kernel_rfl) (fun _ _ _ h => h) (Or.inl ⟨by rfl, ?_⟩) hHeld ?_
            rotate_left
            · intro w hSw; (try dsimp only at hSw); go_simp; (try with_reducible rfl)
            (try simp only [Act.put, List.getElem_toArray, List.getElem_cons_zero, List.getElem_cons_succ, List.setIfInBounds_toArray, List.set_cons_zero, List.set_cons_succ])
            refine wpAnyH_take (i := 2) (v := ?_) rfl (by kernel_rfl) (by kernel_rfl) (by kernel_rfl) (fun _ _ _ h => h) (Or.inl ⟨by rfl, ?_⟩) hHeld ?_
            rotate_left
            · intro w hSw; (try dsimp only at hSw); go_simp; (try with_reducible rfl)
            (try simp only [Act.put, List.getElem_toArray, List.getElem_cons_zero, List.getElem_cons_succ, List.setIfInBounds_toArray, List.set_cons_zero, List.set_cons_succ])
            refine wpAnyH_take (i := 3) (v := ?_) rfl (by kernel_rfl) (by kernel_rfl) (by kernel_rfl) (fun _ _ _ h => h) (Or.inl ⟨by rfl, ?_⟩) hHeld ?_
            rotate_left
            · intro w hSw; (try dsimp only at hSw); go_simp; (try with_reducible rfl)
            (try simp only [Act.put, List.getElem_toArray, List.getElem_cons_zero, List.getElem_cons_succ, List.setIfInBounds_toArray, List.set_cons_zero, List.set_cons_succ])
            refine wpAnyH_take (i := 4) (v := ?_) rfl (by kernel_rfl) (by kernel_rfl) (by kernel_rfl) (fun _ _ _ h => h) (Or.inl ⟨by rfl, ?_⟩) hHeld ?_
            rotate_left
            · intro w hSw; (try dsimp only at hSw); go_simp; (try with_reducible rfl)
            (try simp only [Act.put, List.getElem_toArray, List.getElem_cons_zero, List.getElem_cons_succ, List.setIfInBounds_toArray, List.set_cons_zero, List.set_cons_succ])
            refine wpAnyH_ready (rs := [5]) (by kernel_rfl) (by simp) (AllReadyH.cons rfl (fun K hK => ?_) AllReadyH.nil)
            go_simp
            refine ((unhide HFl) _).mono ?_
            rintro e w2 ⟨rfl, hf2⟩
            have F2 := hide ((Fr.refl (fun _ => False) wr).drew.trans hf2 (fun _ _ h => h))
            clear hf2
            go_simp
            refine hK.out _ _ ((unhide HS1) _ (unhide F2)) (fun hHeld => ?_)
            clear hK K
            (try simp only [Act.put, List.getElem_toArray, List.getElem_cons_zero, List.getElem_cons_succ, List.setIfInBounds_toArray, List.set_cons_zero, List.set_cons_succ])
            refine wpAnyH_take (i := 6) (v := ?_) rfl (by kernel_rfl) (by kernel_rfl) (by kernel_rfl) (fun _ _ _ h => h) (Or.inl ⟨by rfl, ?_⟩) hHeld ?_
            rotate_left
            · intro w hSw; (try dsimp only at hSw); go_simp; (try with_reducible rfl)
            (try simp only [Act.put, List.getElem_toArray, List.getElem_cons_zero, List.getElem_cons_succ, List.setIfInBounds_toArray, List.set_cons_zero, List.set_cons_succ])
            refine wpAnyH_take (i := 7) (v := ?_) rfl (by kernel_rfl) (by kernel_rfl) (by kernel_rfl) (fun _ _ _ h => h) (Or.inl ⟨by rfl, ?_⟩) hHeld ?_
            rotate_left
            · intro w hSw; (try dsimp only at hSw); go_simp; (try with_reducible rfl)
            (try simp only [Act.put, List.getElem_toArray, List.getElem_cons_zero, List.getElem_cons_succ, List.setIfInBounds_toArray, List.set_cons_zero, List.set_cons_succ])
            refine wpAnyH_take (i := 8) (v := ?_) rfl (by kernel_rfl) (by kernel_rfl) (by kernel_rfl) (fun _ _ _ h => h) (Or.inl ⟨by rfl, ?_⟩) hHeld ?_
            rotate_left
            · intro w hSw; (try dsimp only at hSw); go_simp; (try with_reducible rfl)
            (try simp only [Act.put, List.getElem_toArray, List.getElem_cons_zero, List.getElem_cons_succ, List.setIfInBounds_toArray, List.set_cons_zero, List.set_cons_succ])
            refine wpAnyH_take (i := 9) (v := ?_) rfl (by kernel_rfl) (by kernel_rfl) (by kernel_rfl) (fun _ _ _ h => h) (Or.inl ⟨by rfl, ?_⟩) hHeld ?_
            rotate_left
            · intro w hSw; (try dsimp only at hSw); go_simp; (try with_reducible rfl)
            (try simp only [Act.put, List.getElem_toArray, List.getElem_cons_zero, List.getElem_cons_succ, List.setIfInBounds_toArray, List.set_cons_zero, List.set_cons_succ])
            refine wpAnyH_take (i := 10) (v := ?_) rfl (by kernel_rfl) (by kernel_rfl) (by kernel_rfl) (fun _ _ _ h => h) (Or.inl ⟨by rfl, ?_⟩) hHeld ?_
            rotate_left
            · intro w hSw; (try dsimp only at hSw); go_simp; (try with_reducible rfl)
            (try simp only [Act.put, List.getElem_toArray, List.getElem_cons_zero, List.getElem_cons_succ, List.setIfInBounds_toArray, List.set_cons_zero, List.set_cons_succ])
            refine wpAnyH_take (i := 11) (v := ?_) rfl (by kernel_rfl) (by kernel_rfl) (by kernel_rfl) (fun _ _ _ h => h) (Or.inl ⟨by rfl, ?_⟩) hHeld ?_
            rotate_left
            · intro w hSw; (try dsimp only at hSw); go_simp; (try with_reducible rfl)
            (try simp only [Act.put, List.getElem_toArray, List.getElem_cons_zero, List.getElem_cons_succ, List.setIfInBounds_toArray, List.set_cons_zero, List.set_cons_succ])
            refine wpAnyH_take (i := 12) (v := ?_) rfl (by kernel_rfl) (by kernel_rfl) (by kernel_rfl) (fun _ _ _ h => h) (Or.inl ⟨by rfl, ?_⟩) hHeld ?_
            rotate_left
            · intro w hSw; (try dsimp only at hSw); go_simp; (try with_reducible rfl)
            (try simp only [Act.put, List.getElem_toArray, List.getElem_cons_zero, List.getElem_cons_succ, List.setIfInBounds_toArray, List.set_cons_zero, List.set_cons_succ])
            refine wpAnyH_take (i := 13) (v := ?_) rfl (by kernel_rfl) (by kernel_rfl) (by kernel_rfl) (fun _ _ _ h => h) (Or.inl ⟨by rfl, ?_⟩) hHeld ?_
            rotate_left
            · intro w hSw; (try dsimp only at hSw); go_simp; (try with_reducible rfl)
            (try simp only [Act.put, List.getElem_toArray, List.getElem_cons_zero, List.getElem_cons_succ, List.setIfInBounds_toArray, List.set_cons_zero, List.set_cons_succ])
            refine wpAnyH_take (i := 14) (v := ?_) rfl (by kernel_rfl) (by kernel_rfl) (by kernel_rfl) (fun _ _ _ h => h) (Or.inl ⟨by rfl, ?_⟩) hHeld ?_
            rotate_left
            · intro w hSw; (try dsimp only at hSw); go_simp; (try with_reducible rfl)
            (try simp only [Act.put, List.getElem_toArray, List.getElem_cons_zero, List.getElem_cons_succ, List.setIfInBounds_toArray, List.set_cons_zero, List.set_cons_succ])
            refine wpAnyH_take (i := 15) (v := ?_) rfl (by kernel_rfl) (by kernel_rfl) (by kernel_rfl) (fun _ _ _ h => h) (Or.inl ⟨by rfl, ?_⟩) hHeld ?_
            rotate_left
            · intro w hSw; (try dsimp only at hSw); go_simp; (try with_reducible rfl)
            (try simp only [Act.put, List.getElem_toArray, List.getElem_cons_zero, List.getElem_cons_succ, List.setIfInBounds_toArray, List.set_cons_zero, List.set_cons_succ])
            refine wpAnyH_take (i := 16) (v := ?_) rfl (by kernel_rfl) (by kernel_rfl) (by kernel_rfl) (fun _ _ _ h => h) (Or.inl ⟨by rfl, ?_⟩) hHeld ?_
            rotate_left
            · intro w hSw; (try dsimp only at hSw); go_simp; (try with_reducible rfl)
            (try simp only [Act.put, List.getElem_toArray, List.getElem_cons_zero, List.getElem_cons_succ, List.setIfInBounds_toArray, List.set_cons_zero, List.set_cons_succ])
            refine wpAnyH_take (i := 17) (v := ?_) rfl (by kernel_rfl) (by kernel_rfl) (by kernel_rfl) (fun _ _ _ h => h) (Or.inl ⟨by rfl, ?_⟩) hHeld ?_
            rotate_left
            · intro w hSw; (try dsimp only at hSw); go_simp; (try with_reducible rfl)
            (try simp only [Act.put, List.getElem_toArray, List.getElem_cons_zero, List.getElem_cons_succ, List.setIfInBounds_toArray, List.set_cons_zero, List.set_cons_succ])
            refine wpAnyH_take (i := 18) (v := ?_) rfl (by kernel_rfl) (by kernel_rfl) (by kernel_rfl) (fun _ _ _ h => h) (Or.inl ⟨by rfl, ?_⟩) hHeld ?_
            rotate_left
            · intro w hSw; (try dsimp only at hSw); go_simp; (try with_reducible rfl)
            (try simp only [Act.put, List.getElem_toArray, List.getElem_cons_zero, List.getElem_cons_succ, List.setIfInBounds_toArray, List.set_cons_zero, List.set_cons_succ])
            refine wpAnyH_take (i := 19) (v := ?_) rfl (by kernel_rfl) (by kernel_rfl) (by kernel_rfl) (fun _ _ _ h => h) (Or.inl ⟨by rfl, ?_⟩) hHeld ?_
            rotate_left
            · intro w hSw; (try dsimp only at hSw); go_simp; (try with_reducible rfl)
            (try simp only [Act.put, List.getElem_toArray, List.getElem_cons_zero, List.getElem_cons_succ, List.setIfInBounds_toArray, List.set_cons_zero, List.set_cons_succ])
            refine wpAnyH_take (i := 20) (v := ?_) rfl (by kernel_rfl) (by kernel_rfl) (by kernel_rfl) (fun _ _ _ h => h) (Or.inl ⟨by rfl, ?_⟩) hHeld ?_
            rotate_left
            · intro w hSw; (try dsimp only at hSw); go_simp; (try with_reducible rfl)
            (try simp only [Act.put, List.getElem_toArray, List.getElem_cons_zero, List.getElem_cons_succ, List.setIfInBounds_toArray, List.set_cons_zero, List.set_cons_succ])
            refine wpAnyH_take (i := 21) (v := ?_) rfl (by kernel_rfl) (by kernel_rfl) (by kernel_rfl) (fun _ _ _ h => h) (Or.inl ⟨by rfl, ?_⟩) hHeld ?_
            rotate_left
            · intro w hSw; (try dsimp only at hSw); go_simp; (try with_reducible rfl)
            (try simp only [Act.put, List.getElem_toArray, List.getElem_cons_zero, List.getElem_cons_succ, List.setIfInBounds_toArray, List.set_cons_zero, List.set_cons_succ])
            refine wpAnyH_take (i := 22) (v := ?_) rfl (by kernel_rfl) (by kernel_rfl) (by kernel_rfl) (fun _ _ _ h => h) (Or.inl ⟨by rfl, ?_⟩) hHeld ?_
            rotate_left
            · intro w hSw; (try dsimp only at hSw); go_simp; (try with_reducible rfl)
            (try simp only [Act.put, List.getElem_toArray, List.getElem_cons_zero, List.getElem_cons_succ, List.setIfInBounds_toArray, List.set_cons_zero, List.set_cons_succ])
            refine wpAnyH_take (i := 23) (v := ?_) rfl (by kernel_rfl) (by kernel_rfl) (by kernel_rfl) (fun _ _ _ h => h) (Or.inl ⟨by rfl, ?_⟩) hHeld ?_
            rotate_left
            · intro w hSw; (try dsimp only at hSw); go_simp; (try with_reducible rfl)
            (try simp only [Act.put, List.getElem_toArray, List.getElem_cons_zero, List.getElem_cons_succ, List.setIfInBounds_toArray, List.set_cons_zero, List.set_cons_succ])
            refine wpAnyH_take (i := 24) (v := ?_) rfl (by kernel_rfl) (by kernel_rfl) (by kernel_rfl) (fun _ _ _ h => h) (Or.inl ⟨by rfl, ?_⟩) hHeld ?_
            rotate_left
            · intro w hSw; (try dsimp only at hSw); go_simp; (try with_reducible rfl)
            (try simp only [Act.put, List.getElem_toArray, List.getElem_cons_zero, List.getElem_cons_succ, List.setIfInBounds_toArray, List.set_cons_zero, List.set_cons_succ])
            refine wpAnyH_take (i := 25) (v := ?_) rfl (by kernel_rfl) (by kernel_rfl) (by kernel_rfl) (fun _ _ _ h => h) (Or.inl ⟨by rfl, ?_⟩) hHeld ?_
            rotate_left
            · intro w hSw; (try dsimp only at hSw); go_simp; (try with_reducible rfl)
            (try simp only [Act.put, List.getElem_toArray, List.getElem_cons_zero, List.getElem_cons_succ, List.setIfInBounds_toArray, List.set_cons_zero, List.set_cons_succ])
            refine wpAnyH_done (by kernel_rfl) ?_ _
            refine NoPanic.normal ?_
            clear HFl HS1
            go_wp2_with fail
            go_roundw
            case rel => exact ⟨j + 1, hlt, by go_num, by rw [(unhide HR).1, unhide HQ], (unhide HR).2.trans (unhide F2) (fun _ _ h => h)⟩
            case measure => simp [intOf]; omega
    · obtain rfl : j = l.length := by omega
      have HR := hide (And.intro hG hf)
      clear hG hf
      go_wp2_with fail
      go_ret
      have hv0 : fdsB l gone = decide (l.length ≤ 32) := by rw [← gfds_eq, (unhide HR).1, gat_end]; simp
      refine ⟨?_, (unhide HR).2⟩
      rw [hv0]
      refine congrArg (fun b => Ending.returned (.bool b)) ?_
      rw [decide_eq_decide]
      omega
end Go.Proofs.YtciblhmmpamjoaaGreatDoor

namespace Go.Proofs.YtciblhmmpamjoaaGreatDoor
open Go.RowKit Go.Shelf

set_option linter.unusedSimpArgs false in
set_option maxHeartbeats 1000000 in
set_option maxRecDepth 100000 in
theorem gformed_1 (cl nu ac rc ve wa ow : Nat) (xo : Option Addr) (xc : Nat) (rs : ByteArray) (F : List F5) (N : Nat) (w : World) (HFi : Hid (∀ gone W, Fr (fun _ => False) w W → Calls Tryz.prog 32 #[.slice xo N xc, .bool gone] W fun e w' => e = .returned (.bool (fdsB F gone)) ∧ Fr (fun _ => False) w w')) :
    Calls Tryz.prog 10 #[.agg #[.int .u32 (cl : Nat), .int .u32 (nu : Nat), .int .u32 (ac : Nat), .int .u8 1, .int .u32 (rc : Nat), .int .u32 (ve : Nat), .int .u32 (wa : Nat), .int .u32 (ow : Nat), .slice xo N xc, .string rs]] w fun e w' => e = .returned (.bool (RQ.frm ⟨cl, nu, ac, 1, rc, ve, wa, ow, .slice xo N xc, rs⟩ F)) ∧ Fr (fun _ => False) w w' := by
  by_cases z_rc : rc = 0
  · subst z_rc
    by_cases z_ve : ve = 0
    · subst z_ve
      by_cases z_rs : rs.size = 0
      · have i_rs : rs.toList.isEmpty = true := by rw [empty_toList]; simp [z_rs]
        have Z := hide z_rs
        clear z_rs
        have HV := hide (show RQ.frm ⟨cl, nu, ac, 1, 0, 0, wa, ow, .slice xo N xc, rs⟩ F = fdsB F false by unfold RQ.frm; simp [unhide Z])
        go_enter Tryz.func10, Tryz.ntmps10
        go_wp2_with fail
        refine ((unhide HFi) false _ (by repeat first | exact Fr.refl _ _ | refine Fr.alloc ?_ _ | refine Fr.setCell (p := ⟨_, _, none⟩) ?_ (.inr (by simp)) _)).mono ?_
        rintro e w2 ⟨rfl, hf2⟩
        go_wp2_with fail
        go_ret
        exact ⟨congrArg (fun b => Ending.returned (.bool b)) (unhide HV).symm, hf2⟩
      · have i_rs : rs.toList.isEmpty = false := by rw [empty_toList]; simp [z_rs]
        have HV := hide (show RQ.frm ⟨cl, nu, ac, 1, 0, 0, wa, ow, .slice xo N xc, rs⟩ F = false by unfold RQ.frm; simp [z_rs])
        clear HFi
        go_enter Tryz.func10, Tryz.ntmps10
        go_wp2_with fail
        go_ret
        exact ⟨congrArg (fun b => Ending.returned (.bool b)) (unhide HV).symm, (by repeat first | exact Fr.refl _ _ | refine Fr.alloc ?_ _ | refine Fr.setCell (p := ⟨_, _, none⟩) ?_ (.inr (by simp)) _)⟩
    · have i_ve : ¬ (ve : Int) = 0 := by omega
      have HV := hide (show RQ.frm ⟨cl, nu, ac, 1, 0, ve, wa, ow, .slice xo N xc, rs⟩ F = false by unfold RQ.frm; simp [z_ve])
      clear HFi
      go_enter Tryz.func10, Tryz.ntmps10
      go_wp2_with fail
      go_ret
      exact ⟨congrArg (fun b => Ending.returned (.bool b)) (unhide HV).symm, (by repeat first | exact Fr.refl _ _ | refine Fr.alloc ?_ _ | refine Fr.setCell (p := ⟨_, _, none⟩) ?_ (.inr (by simp)) _)⟩
  · have i_rc : ¬ (rc : Int) = 0 := by omega
    have HV := hide (show RQ.frm ⟨cl, nu, ac, 1, rc, ve, wa, ow, .slice xo N xc, rs⟩ F = false by unfold RQ.frm; simp [z_rc])
    clear HFi
    go_enter Tryz.func10, Tryz.ntmps10
    go_wp2_with fail
    go_ret
    exact ⟨congrArg (fun b => Ending.returned (.bool b)) (unhide HV).symm, (by repeat first | exact Fr.refl _ _ | refine Fr.alloc ?_ _ | refine Fr.setCell (p := ⟨_, _, none⟩) ?_ (.inr (by simp)) _)⟩
set_option linter.unusedSimpArgs false in
set_option maxHeartbeats 1000000 in
set_option maxRecDepth 100000 in
theorem gformed_2 (cl nu ac rc ve wa ow : Nat) (xo : Option Addr) (xc : Nat) (rs : ByteArray) (F : List F5) (N : Nat) (w : World) (HFi : Hid (∀ gone W, Fr (fun _ => False) w W → Calls Tryz.prog 32 #[.slice xo N xc, .bool gone] W fun e w' => e = .returned (.bool (fdsB F gone)) ∧ Fr (fun _ => False) w w')) :
    Calls Tryz.prog 10 #[.agg #[.int .u32 (cl : Nat), .int .u32 (nu : Nat), .int .u32 (ac : Nat), .int .u8 2, .int .u32 (rc : Nat), .int .u32 (ve : Nat), .int .u32 (wa : Nat), .int .u32 (ow : Nat), .slice xo N xc, .string rs]] w fun e w' => e = .returned (.bool (RQ.frm ⟨cl, nu, ac, 2, rc, ve, wa, ow, .slice xo N xc, rs⟩ F)) ∧ Fr (fun _ => False) w w' := by
  by_cases z_wa : wa = 0
  · subst z_wa
    by_cases z_ow : ow = 0
    · subst z_ow
      by_cases z_rs : rs.size = 0
      · have i_rs : rs.toList.isEmpty = true := by rw [empty_toList]; simp [z_rs]
        have Z := hide z_rs
        clear z_rs
        have HV := hide (show RQ.frm ⟨cl, nu, ac, 2, rc, ve, 0, 0, .slice xo N xc, rs⟩ F = fdsB F true by unfold RQ.frm; simp [unhide Z])
        go_enter Tryz.func10, Tryz.ntmps10
        go_wp2_with fail
        refine ((unhide HFi) true _ (by repeat first | exact Fr.refl _ _ | refine Fr.alloc ?_ _ | refine Fr.setCell (p := ⟨_, _, none⟩) ?_ (.inr (by simp)) _)).mono ?_
        rintro e w2 ⟨rfl, hf2⟩
        go_wp2_with fail
        go_ret
        exact ⟨congrArg (fun b => Ending.returned (.bool b)) (unhide HV).symm, hf2⟩
      · have i_rs : rs.toList.isEmpty = false := by rw [empty_toList]; simp [z_rs]
        have HV := hide (show RQ.frm ⟨cl, nu, ac, 2, rc, ve, 0, 0, .slice xo N xc, rs⟩ F = false by unfold RQ.frm; simp [z_rs])
        clear HFi
        go_enter Tryz.func10, Tryz.ntmps10
        go_wp2_with fail
        go_ret
        exact ⟨congrArg (fun b => Ending.returned (.bool b)) (unhide HV).symm, (by repeat first | exact Fr.refl _ _ | refine Fr.alloc ?_ _ | refine Fr.setCell (p := ⟨_, _, none⟩) ?_ (.inr (by simp)) _)⟩
    · have i_ow : ¬ (ow : Int) = 0 := by omega
      have HV := hide (show RQ.frm ⟨cl, nu, ac, 2, rc, ve, 0, ow, .slice xo N xc, rs⟩ F = false by unfold RQ.frm; simp [z_ow])
      clear HFi
      go_enter Tryz.func10, Tryz.ntmps10
      go_wp2_with fail
      go_ret
      exact ⟨congrArg (fun b => Ending.returned (.bool b)) (unhide HV).symm, (by repeat first | exact Fr.refl _ _ | refine Fr.alloc ?_ _ | refine Fr.setCell (p := ⟨_, _, none⟩) ?_ (.inr (by simp)) _)⟩
  · have i_wa : ¬ (wa : Int) = 0 := by omega
    have HV := hide (show RQ.frm ⟨cl, nu, ac, 2, rc, ve, wa, ow, .slice xo N xc, rs⟩ F = false by unfold RQ.frm; simp [z_wa])
    clear HFi
    go_enter Tryz.func10, Tryz.ntmps10
    go_wp2_with fail
    go_ret
    exact ⟨congrArg (fun b => Ending.returned (.bool b)) (unhide HV).symm, (by repeat first | exact Fr.refl _ _ | refine Fr.alloc ?_ _ | refine Fr.setCell (p := ⟨_, _, none⟩) ?_ (.inr (by simp)) _)⟩
set_option linter.unusedSimpArgs false in
set_option maxHeartbeats 1000000 in
set_option maxRecDepth 100000 in
theorem gformed_3 (cl nu ac rc ve wa ow : Nat) (xo : Option Addr) (xc : Nat) (rs : ByteArray) (F : List F5) (N : Nat) (w : World) (HFi : Hid (∀ gone W, Fr (fun _ => False) w W → Calls Tryz.prog 32 #[.slice xo N xc, .bool gone] W fun e w' => e = .returned (.bool (fdsB F gone)) ∧ Fr (fun _ => False) w w')) (hN : Hid (F.length = N)) (hnil : Hid (F.length = 0 → fdsB F false = true)) :
    Calls Tryz.prog 10 #[.agg #[.int .u32 (cl : Nat), .int .u32 (nu : Nat), .int .u32 (ac : Nat), .int .u8 3, .int .u32 (rc : Nat), .int .u32 (ve : Nat), .int .u32 (wa : Nat), .int .u32 (ow : Nat), .slice xo N xc, .string rs]] w fun e w' => e = .returned (.bool (RQ.frm ⟨cl, nu, ac, 3, rc, ve, wa, ow, .slice xo N xc, rs⟩ F)) ∧ Fr (fun _ => False) w w' := by
  by_cases z_wa : wa = 0
  · subst z_wa
    by_cases z_ow : ow = 0
    · subst z_ow
      by_cases z_N : N = 0
      · subst z_N
        by_cases z_rs : rs.size = 0
        · have i_rs : rs.toList.isEmpty = true := by rw [empty_toList]; simp [z_rs]
          have Z := hide z_rs
          clear z_rs
          have HV := hide (show RQ.frm ⟨cl, nu, ac, 3, rc, ve, 0, 0, .slice xo 0 xc, rs⟩ F = fdsB F false by unfold RQ.frm; simp [unhide hnil, unhide hN, unhide Z])
          go_enter Tryz.func10, Tryz.ntmps10
          go_wp2_with fail
          refine ((unhide HFi) false _ (by repeat first | exact Fr.refl _ _ | refine Fr.alloc ?_ _ | refine Fr.setCell (p := ⟨_, _, none⟩) ?_ (.inr (by simp)) _)).mono ?_
          rintro e w2 ⟨rfl, hf2⟩
          go_wp2_with fail
          go_ret
          exact ⟨congrArg (fun b => Ending.returned (.bool b)) (unhide HV).symm, hf2⟩
        · have i_rs : rs.toList.isEmpty = false := by rw [empty_toList]; simp [z_rs]
          have HV := hide (show RQ.frm ⟨cl, nu, ac, 3, rc, ve, 0, 0, .slice xo 0 xc, rs⟩ F = false by unfold RQ.frm; simp [unhide hnil, unhide hN, z_rs])
          clear HFi
          go_enter Tryz.func10, Tryz.ntmps10
          go_wp2_with fail
          go_ret
          exact ⟨congrArg (fun b => Ending.returned (.bool b)) (unhide HV).symm, (by repeat first | exact Fr.refl _ _ | refine Fr.alloc ?_ _ | refine Fr.setCell (p := ⟨_, _, none⟩) ?_ (.inr (by simp)) _)⟩
      · have i_N : ¬ (N : Int) = 0 := by omega
        have j_N : (0 : Int) < (N : Int) := by omega
        have HV := hide (show RQ.frm ⟨cl, nu, ac, 3, rc, ve, 0, 0, .slice xo N xc, rs⟩ F = false by unfold RQ.frm; simp [unhide hnil, unhide hN, z_N])
        clear HFi
        go_enter Tryz.func10, Tryz.ntmps10
        go_wp2_with fail
        go_ret
        exact ⟨congrArg (fun b => Ending.returned (.bool b)) (unhide HV).symm, (by repeat first | exact Fr.refl _ _ | refine Fr.alloc ?_ _ | refine Fr.setCell (p := ⟨_, _, none⟩) ?_ (.inr (by simp)) _)⟩
    · have i_ow : ¬ (ow : Int) = 0 := by omega
      have HV := hide (show RQ.frm ⟨cl, nu, ac, 3, rc, ve, 0, ow, .slice xo N xc, rs⟩ F = false by unfold RQ.frm; simp [unhide hnil, unhide hN, z_ow])
      clear HFi
      go_enter Tryz.func10, Tryz.ntmps10
      go_wp2_with fail
      go_ret
      exact ⟨congrArg (fun b => Ending.returned (.bool b)) (unhide HV).symm, (by repeat first | exact Fr.refl _ _ | refine Fr.alloc ?_ _ | refine Fr.setCell (p := ⟨_, _, none⟩) ?_ (.inr (by simp)) _)⟩
  · have i_wa : ¬ (wa : Int) = 0 := by omega
    have HV := hide (show RQ.frm ⟨cl, nu, ac, 3, rc, ve, wa, ow, .slice xo N xc, rs⟩ F = false by unfold RQ.frm; simp [unhide hnil, unhide hN, z_wa])
    clear HFi
    go_enter Tryz.func10, Tryz.ntmps10
    go_wp2_with fail
    go_ret
    exact ⟨congrArg (fun b => Ending.returned (.bool b)) (unhide HV).symm, (by repeat first | exact Fr.refl _ _ | refine Fr.alloc ?_ _ | refine Fr.setCell (p := ⟨_, _, none⟩) ?_ (.inr (by simp)) _)⟩
set_option linter.unusedSimpArgs false in
set_option maxHeartbeats 1000000 in
set_option maxRecDepth 100000 in
theorem gformed_4 (cl nu ac rc ve wa ow : Nat) (xo : Option Addr) (xc : Nat) (rs : ByteArray) (F : List F5) (N : Nat) (w : World) (HFi : Hid (∀ gone W, Fr (fun _ => False) w W → Calls Tryz.prog 32 #[.slice xo N xc, .bool gone] W fun e w' => e = .returned (.bool (fdsB F gone)) ∧ Fr (fun _ => False) w w')) (hN : Hid (F.length = N)) (hnil : Hid (F.length = 0 → fdsB F false = true)) :
    Calls Tryz.prog 10 #[.agg #[.int .u32 (cl : Nat), .int .u32 (nu : Nat), .int .u32 (ac : Nat), .int .u8 4, .int .u32 (rc : Nat), .int .u32 (ve : Nat), .int .u32 (wa : Nat), .int .u32 (ow : Nat), .slice xo N xc, .string rs]] w fun e w' => e = .returned (.bool (RQ.frm ⟨cl, nu, ac, 4, rc, ve, wa, ow, .slice xo N xc, rs⟩ F)) ∧ Fr (fun _ => False) w w' := by
  by_cases z_wa : wa = 0
  · subst z_wa
    by_cases z_ow : ow = 0
    · subst z_ow
      by_cases z_N : N = 0
      · subst z_N
        by_cases z_rs : rs.size = 0
        · have i_rs : rs.toList.isEmpty = true := by rw [empty_toList]; simp [z_rs]
          have Z := hide z_rs
          clear z_rs
          have HV := hide (show RQ.frm ⟨cl, nu, ac, 4, rc, ve, 0, 0, .slice xo 0 xc, rs⟩ F = fdsB F false by unfold RQ.frm; simp [unhide hnil, unhide hN, unhide Z])
          go_enter Tryz.func10, Tryz.ntmps10
          go_wp2_with fail
          refine ((unhide HFi) false _ (by repeat first | exact Fr.refl _ _ | refine Fr.alloc ?_ _ | refine Fr.setCell (p := ⟨_, _, none⟩) ?_ (.inr (by simp)) _)).mono ?_
          rintro e w2 ⟨rfl, hf2⟩
          go_wp2_with fail
          go_ret
          exact ⟨congrArg (fun b => Ending.returned (.bool b)) (unhide HV).symm, hf2⟩
        · have i_rs : rs.toList.isEmpty = false := by rw [empty_toList]; simp [z_rs]
          have HV := hide (show RQ.frm ⟨cl, nu, ac, 4, rc, ve, 0, 0, .slice xo 0 xc, rs⟩ F = false by unfold RQ.frm; simp [unhide hnil, unhide hN, z_rs])
          clear HFi
          go_enter Tryz.func10, Tryz.ntmps10
          go_wp2_with fail
          go_ret
          exact ⟨congrArg (fun b => Ending.returned (.bool b)) (unhide HV).symm, (by repeat first | exact Fr.refl _ _ | refine Fr.alloc ?_ _ | refine Fr.setCell (p := ⟨_, _, none⟩) ?_ (.inr (by simp)) _)⟩
      · have i_N : ¬ (N : Int) = 0 := by omega
        have j_N : (0 : Int) < (N : Int) := by omega
        have HV := hide (show RQ.frm ⟨cl, nu, ac, 4, rc, ve, 0, 0, .slice xo N xc, rs⟩ F = false by unfold RQ.frm; simp [unhide hnil, unhide hN, z_N])
        clear HFi
        go_enter Tryz.func10, Tryz.ntmps10
        go_wp2_with fail
        go_ret
        exact ⟨congrArg (fun b => Ending.returned (.bool b)) (unhide HV).symm, (by repeat first | exact Fr.refl _ _ | refine Fr.alloc ?_ _ | refine Fr.setCell (p := ⟨_, _, none⟩) ?_ (.inr (by simp)) _)⟩
    · have i_ow : ¬ (ow : Int) = 0 := by omega
      have HV := hide (show RQ.frm ⟨cl, nu, ac, 4, rc, ve, 0, ow, .slice xo N xc, rs⟩ F = false by unfold RQ.frm; simp [unhide hnil, unhide hN, z_ow])
      clear HFi
      go_enter Tryz.func10, Tryz.ntmps10
      go_wp2_with fail
      go_ret
      exact ⟨congrArg (fun b => Ending.returned (.bool b)) (unhide HV).symm, (by repeat first | exact Fr.refl _ _ | refine Fr.alloc ?_ _ | refine Fr.setCell (p := ⟨_, _, none⟩) ?_ (.inr (by simp)) _)⟩
  · have i_wa : ¬ (wa : Int) = 0 := by omega
    have HV := hide (show RQ.frm ⟨cl, nu, ac, 4, rc, ve, wa, ow, .slice xo N xc, rs⟩ F = false by unfold RQ.frm; simp [unhide hnil, unhide hN, z_wa])
    clear HFi
    go_enter Tryz.func10, Tryz.ntmps10
    go_wp2_with fail
    go_ret
    exact ⟨congrArg (fun b => Ending.returned (.bool b)) (unhide HV).symm, (by repeat first | exact Fr.refl _ _ | refine Fr.alloc ?_ _ | refine Fr.setCell (p := ⟨_, _, none⟩) ?_ (.inr (by simp)) _)⟩
end Go.Proofs.YtciblhmmpamjoaaGreatDoor

namespace Go.Proofs.YtciblhmmpamjoaaGreatDoor
open Go.RowKit Go.Shelf

set_option linter.unusedSimpArgs false in
set_option maxHeartbeats 1000000 in
set_option maxRecDepth 100000 in
theorem gformed_5 (cl nu ac rc ve wa ow : Nat) (xo : Option Addr) (xc : Nat) (rs : ByteArray) (F : List F5) (N : Nat) (w : World) (HFi : Hid (∀ gone W, Fr (fun _ => False) w W → Calls Tryz.prog 32 #[.slice xo N xc, .bool gone] W fun e w' => e = .returned (.bool (fdsB F gone)) ∧ Fr (fun _ => False) w w')) (hN : Hid (F.length = N)) (hnil : Hid (F.length = 0 → fdsB F false = true)) :
    Calls Tryz.prog 10 #[.agg #[.int .u32 (cl : Nat), .int .u32 (nu : Nat), .int .u32 (ac : Nat), .int .u8 5, .int .u32 (rc : Nat), .int .u32 (ve : Nat), .int .u32 (wa : Nat), .int .u32 (ow : Nat), .slice xo N xc, .string rs]] w fun e w' => e = .returned (.bool (RQ.frm ⟨cl, nu, ac, 5, rc, ve, wa, ow, .slice xo N xc, rs⟩ F)) ∧ Fr (fun _ => False) w w' := by
  by_cases z_ve : ve = 0
  · subst z_ve
    by_cases z_wa : wa = 0
    · subst z_wa
      by_cases z_ow : ow = 0
      · subst z_ow
        by_cases z_N : N = 0
        · subst z_N
          by_cases z_rs : rs.size = 0
          · have i_rs : rs.toList.isEmpty = true := by rw [empty_toList]; simp [z_rs]
            have Z := hide z_rs
            clear z_rs
            have HV := hide (show RQ.frm ⟨cl, nu, ac, 5, rc, 0, 0, 0, .slice xo 0 xc, rs⟩ F = fdsB F false by unfold RQ.frm; simp [unhide hnil, unhide hN, unhide Z])
            go_enter Tryz.func10, Tryz.ntmps10
            go_wp2_with fail
            refine ((unhide HFi) false _ (by repeat first | exact Fr.refl _ _ | refine Fr.alloc ?_ _ | refine Fr.setCell (p := ⟨_, _, none⟩) ?_ (.inr (by simp)) _)).mono ?_
            rintro e w2 ⟨rfl, hf2⟩
            go_wp2_with fail
            go_ret
            exact ⟨congrArg (fun b => Ending.returned (.bool b)) (unhide HV).symm, hf2⟩
          · have i_rs : rs.toList.isEmpty = false := by rw [empty_toList]; simp [z_rs]
            have HV := hide (show RQ.frm ⟨cl, nu, ac, 5, rc, 0, 0, 0, .slice xo 0 xc, rs⟩ F = false by unfold RQ.frm; simp [unhide hnil, unhide hN, z_rs])
            clear HFi
            go_enter Tryz.func10, Tryz.ntmps10
            go_wp2_with fail
            go_ret
            exact ⟨congrArg (fun b => Ending.returned (.bool b)) (unhide HV).symm, (by repeat first | exact Fr.refl _ _ | refine Fr.alloc ?_ _ | refine Fr.setCell (p := ⟨_, _, none⟩) ?_ (.inr (by simp)) _)⟩
        · have i_N : ¬ (N : Int) = 0 := by omega
          have j_N : (0 : Int) < (N : Int) := by omega
          have HV := hide (show RQ.frm ⟨cl, nu, ac, 5, rc, 0, 0, 0, .slice xo N xc, rs⟩ F = false by unfold RQ.frm; simp [unhide hnil, unhide hN, z_N])
          clear HFi
          go_enter Tryz.func10, Tryz.ntmps10
          go_wp2_with fail
          go_ret
          exact ⟨congrArg (fun b => Ending.returned (.bool b)) (unhide HV).symm, (by repeat first | exact Fr.refl _ _ | refine Fr.alloc ?_ _ | refine Fr.setCell (p := ⟨_, _, none⟩) ?_ (.inr (by simp)) _)⟩
      · have i_ow : ¬ (ow : Int) = 0 := by omega
        have HV := hide (show RQ.frm ⟨cl, nu, ac, 5, rc, 0, 0, ow, .slice xo N xc, rs⟩ F = false by unfold RQ.frm; simp [unhide hnil, unhide hN, z_ow])
        clear HFi
        go_enter Tryz.func10, Tryz.ntmps10
        go_wp2_with fail
        go_ret
        exact ⟨congrArg (fun b => Ending.returned (.bool b)) (unhide HV).symm, (by repeat first | exact Fr.refl _ _ | refine Fr.alloc ?_ _ | refine Fr.setCell (p := ⟨_, _, none⟩) ?_ (.inr (by simp)) _)⟩
    · have i_wa : ¬ (wa : Int) = 0 := by omega
      have HV := hide (show RQ.frm ⟨cl, nu, ac, 5, rc, 0, wa, ow, .slice xo N xc, rs⟩ F = false by unfold RQ.frm; simp [unhide hnil, unhide hN, z_wa])
      clear HFi
      go_enter Tryz.func10, Tryz.ntmps10
      go_wp2_with fail
      go_ret
      exact ⟨congrArg (fun b => Ending.returned (.bool b)) (unhide HV).symm, (by repeat first | exact Fr.refl _ _ | refine Fr.alloc ?_ _ | refine Fr.setCell (p := ⟨_, _, none⟩) ?_ (.inr (by simp)) _)⟩
  · have i_ve : ¬ (ve : Int) = 0 := by omega
    have HV := hide (show RQ.frm ⟨cl, nu, ac, 5, rc, ve, wa, ow, .slice xo N xc, rs⟩ F = false by unfold RQ.frm; simp [unhide hnil, unhide hN, z_ve])
    clear HFi
    go_enter Tryz.func10, Tryz.ntmps10
    go_wp2_with fail
    go_ret
    exact ⟨congrArg (fun b => Ending.returned (.bool b)) (unhide HV).symm, (by repeat first | exact Fr.refl _ _ | refine Fr.alloc ?_ _ | refine Fr.setCell (p := ⟨_, _, none⟩) ?_ (.inr (by simp)) _)⟩
set_option linter.unusedSimpArgs false in
set_option maxHeartbeats 1000000 in
set_option maxRecDepth 100000 in
theorem gformed_6 (cl nu ac rc ve wa ow : Nat) (xo : Option Addr) (xc : Nat) (rs : ByteArray) (F : List F5) (N : Nat) (w : World) (HFi : Hid (∀ gone W, Fr (fun _ => False) w W → Calls Tryz.prog 32 #[.slice xo N xc, .bool gone] W fun e w' => e = .returned (.bool (fdsB F gone)) ∧ Fr (fun _ => False) w w')) (hN : Hid (F.length = N)) (hnil : Hid (F.length = 0 → fdsB F false = true)) (hve : ve < 4294967296) :
    Calls Tryz.prog 10 #[.agg #[.int .u32 (cl : Nat), .int .u32 (nu : Nat), .int .u32 (ac : Nat), .int .u8 6, .int .u32 (rc : Nat), .int .u32 (ve : Nat), .int .u32 (wa : Nat), .int .u32 (ow : Nat), .slice xo N xc, .string rs]] w fun e w' => e = .returned (.bool (RQ.frm ⟨cl, nu, ac, 6, rc, ve, wa, ow, .slice xo N xc, rs⟩ F)) ∧ Fr (fun _ => False) w w' := by
  by_cases z_ve : ve ≤ 1
  · have i_ve : (ve : Int) / 2 % 4294967296 = 0 := by omega
    have i_v2 : (ve : Int) / 2 = 0 := by omega
    by_cases z_wa : wa = 0
    · subst z_wa
      by_cases z_ow : ow = 0
      · subst z_ow
        by_cases z_N : N = 0
        · subst z_N
          by_cases z_rs : rs.size = 0
          · have i_rs : rs.toList.isEmpty = true := by rw [empty_toList]; simp [z_rs]
            have Z := hide z_rs
            clear z_rs
            have HV := hide (show RQ.frm ⟨cl, nu, ac, 6, rc, ve, 0, 0, .slice xo 0 xc, rs⟩ F = fdsB F false by unfold RQ.frm; simp [unhide hnil, unhide hN, z_ve, unhide Z])
            go_enter Tryz.func10, Tryz.ntmps10
            go_wp2_with fail
            refine ((unhide HFi) false _ (by repeat first | exact Fr.refl _ _ | refine Fr.alloc ?_ _ | refine Fr.setCell (p := ⟨_, _, none⟩) ?_ (.inr (by simp)) _)).mono ?_
            rintro e w2 ⟨rfl, hf2⟩
            go_wp2_with fail
            go_ret
            exact ⟨congrArg (fun b => Ending.returned (.bool b)) (unhide HV).symm, hf2⟩
          · have i_rs : rs.toList.isEmpty = false := by rw [empty_toList]; simp [z_rs]
            have HV := hide (show RQ.frm ⟨cl, nu, ac, 6, rc, ve, 0, 0, .slice xo 0 xc, rs⟩ F = false by unfold RQ.frm; simp [unhide hnil, unhide hN, z_ve, z_rs])
            clear HFi
            go_enter Tryz.func10, Tryz.ntmps10
            go_wp2_with fail
            go_ret
            exact ⟨congrArg (fun b => Ending.returned (.bool b)) (unhide HV).symm, (by repeat first | exact Fr.refl _ _ | refine Fr.alloc ?_ _ | refine Fr.setCell (p := ⟨_, _, none⟩) ?_ (.inr (by simp)) _)⟩
        · have i_N : ¬ (N : Int) = 0 := by omega
          have j_N : (0 : Int) < (N : Int) := by omega
          have HV := hide (show RQ.frm ⟨cl, nu, ac, 6, rc, ve, 0, 0, .slice xo N xc, rs⟩ F = false by unfold RQ.frm; simp [unhide hnil, unhide hN, z_ve, z_N])
          clear HFi
          go_enter Tryz.func10, Tryz.ntmps10
          go_wp2_with fail
          go_ret
          exact ⟨congrArg (fun b => Ending.returned (.bool b)) (unhide HV).symm, (by repeat first | exact Fr.refl _ _ | refine Fr.alloc ?_ _ | refine Fr.setCell (p := ⟨_, _, none⟩) ?_ (.inr (by simp)) _)⟩
      · have i_ow : ¬ (ow : Int) = 0 := by omega
        have HV := hide (show RQ.frm ⟨cl, nu, ac, 6, rc, ve, 0, ow, .slice xo N xc, rs⟩ F = false by unfold RQ.frm; simp [unhide hnil, unhide hN, z_ve, z_ow])
        clear HFi
        go_enter Tryz.func10, Tryz.ntmps10
        go_wp2_with fail
        go_ret
        exact ⟨congrArg (fun b => Ending.returned (.bool b)) (unhide HV).symm, (by repeat first | exact Fr.refl _ _ | refine Fr.alloc ?_ _ | refine Fr.setCell (p := ⟨_, _, none⟩) ?_ (.inr (by simp)) _)⟩
    · have i_wa : ¬ (wa : Int) = 0 := by omega
      have HV := hide (show RQ.frm ⟨cl, nu, ac, 6, rc, ve, wa, ow, .slice xo N xc, rs⟩ F = false by unfold RQ.frm; simp [unhide hnil, unhide hN, z_ve, z_wa])
      clear HFi
      go_enter Tryz.func10, Tryz.ntmps10
      go_wp2_with fail
      go_ret
      exact ⟨congrArg (fun b => Ending.returned (.bool b)) (unhide HV).symm, (by repeat first | exact Fr.refl _ _ | refine Fr.alloc ?_ _ | refine Fr.setCell (p := ⟨_, _, none⟩) ?_ (.inr (by simp)) _)⟩
  · have i_ve : ¬ (ve : Int) / 2 % 4294967296 = 0 := by omega
    have HV := hide (show RQ.frm ⟨cl, nu, ac, 6, rc, ve, wa, ow, .slice xo N xc, rs⟩ F = false by unfold RQ.frm; simp [unhide hnil, unhide hN, z_ve])
    clear HFi
    go_enter Tryz.func10, Tryz.ntmps10
    go_wp2_with fail
    go_ret
    exact ⟨congrArg (fun b => Ending.returned (.bool b)) (unhide HV).symm, (by repeat first | exact Fr.refl _ _ | refine Fr.alloc ?_ _ | refine Fr.setCell (p := ⟨_, _, none⟩) ?_ (.inr (by simp)) _)⟩
set_option linter.unusedSimpArgs false in
set_option maxHeartbeats 1000000 in
set_option maxRecDepth 100000 in
theorem gformed_7 (cl nu ac rc ve wa ow : Nat) (xo : Option Addr) (xc : Nat) (rs : ByteArray) (F : List F5) (N : Nat) (w : World) (HFi : Hid (∀ gone W, Fr (fun _ => False) w W → Calls Tryz.prog 32 #[.slice xo N xc, .bool gone] W fun e w' => e = .returned (.bool (fdsB F gone)) ∧ Fr (fun _ => False) w w')) (hN : Hid (F.length = N)) (hnil : Hid (F.length = 0 → fdsB F false = true)) :
    Calls Tryz.prog 10 #[.agg #[.int .u32 (cl : Nat), .int .u32 (nu : Nat), .int .u32 (ac : Nat), .int .u8 7, .int .u32 (rc : Nat), .int .u32 (ve : Nat), .int .u32 (wa : Nat), .int .u32 (ow : Nat), .slice xo N xc, .string rs]] w fun e w' => e = .returned (.bool (RQ.frm ⟨cl, nu, ac, 7, rc, ve, wa, ow, .slice xo N xc, rs⟩ F)) ∧ Fr (fun _ => False) w w' := by
  by_cases z_rs : rs.size ≤ 64
  · have i_rs : (rs.size : Int) ≤ 64 := by omega
    by_cases z_ve : ve = 0
    · subst z_ve
      by_cases z_wa : wa = 0
      · subst z_wa
        by_cases z_ow : ow = 0
        · subst z_ow
          by_cases z_N : N = 0
          · subst z_N
            have HV := hide (show RQ.frm ⟨cl, nu, ac, 7, rc, 0, 0, 0, .slice xo 0 xc, rs⟩ F = fdsB F false by unfold RQ.frm; simp [unhide hnil, unhide hN, z_rs])
            go_enter Tryz.func10, Tryz.ntmps10
            go_wp2_with fail
            refine ((unhide HFi) false _ (by repeat first | exact Fr.refl _ _ | refine Fr.alloc ?_ _ | refine Fr.setCell (p := ⟨_, _, none⟩) ?_ (.inr (by simp)) _)).mono ?_
            rintro e w2 ⟨rfl, hf2⟩
            go_wp2_with fail
            go_ret
            exact ⟨congrArg (fun b => Ending.returned (.bool b)) (unhide HV).symm, hf2⟩
          · have i_N : ¬ (N : Int) = 0 := by omega
            have j_N : (0 : Int) < (N : Int) := by omega
            have HV := hide (show RQ.frm ⟨cl, nu, ac, 7, rc, 0, 0, 0, .slice xo N xc, rs⟩ F = false by unfold RQ.frm; simp [unhide hnil, unhide hN, z_rs, z_N])
            clear HFi
            go_enter Tryz.func10, Tryz.ntmps10
            go_wp2_with fail
            go_ret
            exact ⟨congrArg (fun b => Ending.returned (.bool b)) (unhide HV).symm, (by repeat first | exact Fr.refl _ _ | refine Fr.alloc ?_ _ | refine Fr.setCell (p := ⟨_, _, none⟩) ?_ (.inr (by simp)) _)⟩
        · have i_ow : ¬ (ow : Int) = 0 := by omega
          have HV := hide (show RQ.frm ⟨cl, nu, ac, 7, rc, 0, 0, ow, .slice xo N xc, rs⟩ F = false by unfold RQ.frm; simp [unhide hnil, unhide hN, z_rs, z_ow])
          clear HFi
          go_enter Tryz.func10, Tryz.ntmps10
          go_wp2_with fail
          go_ret
          exact ⟨congrArg (fun b => Ending.returned (.bool b)) (unhide HV).symm, (by repeat first | exact Fr.refl _ _ | refine Fr.alloc ?_ _ | refine Fr.setCell (p := ⟨_, _, none⟩) ?_ (.inr (by simp)) _)⟩
      · have i_wa : ¬ (wa : Int) = 0 := by omega
        have HV := hide (show RQ.frm ⟨cl, nu, ac, 7, rc, 0, wa, ow, .slice xo N xc, rs⟩ F = false by unfold RQ.frm; simp [unhide hnil, unhide hN, z_rs, z_wa])
        clear HFi
        go_enter Tryz.func10, Tryz.ntmps10
        go_wp2_with fail
        go_ret
        exact ⟨congrArg (fun b => Ending.returned (.bool b)) (unhide HV).symm, (by repeat first | exact Fr.refl _ _ | refine Fr.alloc ?_ _ | refine Fr.setCell (p := ⟨_, _, none⟩) ?_ (.inr (by simp)) _)⟩
    · have i_ve : ¬ (ve : Int) = 0 := by omega
      have HV := hide (show RQ.frm ⟨cl, nu, ac, 7, rc, ve, wa, ow, .slice xo N xc, rs⟩ F = false by unfold RQ.frm; simp [unhide hnil, unhide hN, z_rs, z_ve])
      clear HFi
      go_enter Tryz.func10, Tryz.ntmps10
      go_wp2_with fail
      go_ret
      exact ⟨congrArg (fun b => Ending.returned (.bool b)) (unhide HV).symm, (by repeat first | exact Fr.refl _ _ | refine Fr.alloc ?_ _ | refine Fr.setCell (p := ⟨_, _, none⟩) ?_ (.inr (by simp)) _)⟩
  · have i_rs : rs.toList.isEmpty = false := by rw [empty_toList, decide_eq_false (by omega)]
    have i_r2 : ¬ (rs.size : Int) ≤ 64 := by omega
    by_cases z_ve : ve = 0
    · subst z_ve
      by_cases z_wa : wa = 0
      · subst z_wa
        by_cases z_ow : ow = 0
        · subst z_ow
          by_cases z_N : N = 0
          · subst z_N
            have HV := hide (show RQ.frm ⟨cl, nu, ac, 7, rc, 0, 0, 0, .slice xo 0 xc, rs⟩ F = false by unfold RQ.frm; simp [unhide hnil, unhide hN, z_rs])
            clear HFi
            go_enter Tryz.func10, Tryz.ntmps10
            go_wp2_with fail
            go_ret
            exact ⟨congrArg (fun b => Ending.returned (.bool b)) (unhide HV).symm, (by repeat first | exact Fr.refl _ _ | refine Fr.alloc ?_ _ | refine Fr.setCell (p := ⟨_, _, none⟩) ?_ (.inr (by simp)) _)⟩
          · have i_N : ¬ (N : Int) = 0 := by omega
            have j_N : (0 : Int) < (N : Int) := by omega
            have HV := hide (show RQ.frm ⟨cl, nu, ac, 7, rc, 0, 0, 0, .slice xo N xc, rs⟩ F = false by unfold RQ.frm; simp [unhide hnil, unhide hN, z_rs, z_N])
            clear HFi
            go_enter Tryz.func10, Tryz.ntmps10
            go_wp2_with fail
            go_ret
            exact ⟨congrArg (fun b => Ending.returned (.bool b)) (unhide HV).symm, (by repeat first | exact Fr.refl _ _ | refine Fr.alloc ?_ _ | refine Fr.setCell (p := ⟨_, _, none⟩) ?_ (.inr (by simp)) _)⟩
        · have i_ow : ¬ (ow : Int) = 0 := by omega
          have HV := hide (show RQ.frm ⟨cl, nu, ac, 7, rc, 0, 0, ow, .slice xo N xc, rs⟩ F = false by unfold RQ.frm; simp [unhide hnil, unhide hN, z_rs, z_ow])
          clear HFi
          go_enter Tryz.func10, Tryz.ntmps10
          go_wp2_with fail
          go_ret
          exact ⟨congrArg (fun b => Ending.returned (.bool b)) (unhide HV).symm, (by repeat first | exact Fr.refl _ _ | refine Fr.alloc ?_ _ | refine Fr.setCell (p := ⟨_, _, none⟩) ?_ (.inr (by simp)) _)⟩
      · have i_wa : ¬ (wa : Int) = 0 := by omega
        have HV := hide (show RQ.frm ⟨cl, nu, ac, 7, rc, 0, wa, ow, .slice xo N xc, rs⟩ F = false by unfold RQ.frm; simp [unhide hnil, unhide hN, z_rs, z_wa])
        clear HFi
        go_enter Tryz.func10, Tryz.ntmps10
        go_wp2_with fail
        go_ret
        exact ⟨congrArg (fun b => Ending.returned (.bool b)) (unhide HV).symm, (by repeat first | exact Fr.refl _ _ | refine Fr.alloc ?_ _ | refine Fr.setCell (p := ⟨_, _, none⟩) ?_ (.inr (by simp)) _)⟩
    · have i_ve : ¬ (ve : Int) = 0 := by omega
      have HV := hide (show RQ.frm ⟨cl, nu, ac, 7, rc, ve, wa, ow, .slice xo N xc, rs⟩ F = false by unfold RQ.frm; simp [unhide hnil, unhide hN, z_rs, z_ve])
      clear HFi
      go_enter Tryz.func10, Tryz.ntmps10
      go_wp2_with fail
      go_ret
      exact ⟨congrArg (fun b => Ending.returned (.bool b)) (unhide HV).symm, (by repeat first | exact Fr.refl _ _ | refine Fr.alloc ?_ _ | refine Fr.setCell (p := ⟨_, _, none⟩) ?_ (.inr (by simp)) _)⟩
end Go.Proofs.YtciblhmmpamjoaaGreatDoor

namespace Go.Proofs.YtciblhmmpamjoaaGreatDoor
open Go.RowKit Go.Shelf

set_option maxHeartbeats 1000000 in
set_option maxRecDepth 100000 in
theorem gformed_no (cl nu ac op rc ve wa ow : Nat) (xo : Option Addr) (xn xc : Nat) (rs : ByteArray) (w : World) (h1 : ¬ op = 1) (h2 : ¬ op = 2) (h3 : ¬ op = 3) (h4 : ¬ op = 4) (h5 : ¬ op = 5) (h6 : ¬ op = 6) (h7 : ¬ op = 7) :
    Calls Tryz.prog 10 #[.agg #[.int .u32 (cl : Nat), .int .u32 (nu : Nat), .int .u32 (ac : Nat), .int .u8 (op : Nat), .int .u32 (rc : Nat), .int .u32 (ve : Nat), .int .u32 (wa : Nat), .int .u32 (ow : Nat), .slice xo xn xc, .string rs]] w fun e w' => e = .returned (.bool false) ∧ Fr (fun _ => False) w w' := by
  have i1 : ¬ (op : Int) = 1 := by omega
  have i2 : ¬ (op : Int) = 2 := by omega
  have i3 : ¬ (op : Int) = 3 := by omega
  have i4 : ¬ (op : Int) = 4 := by omega
  have i5 : ¬ (op : Int) = 5 := by omega
  have i6 : ¬ (op : Int) = 6 := by omega
  have i7 : ¬ (op : Int) = 7 := by omega
  clear h1 h2 h3 h4 h5 h6 h7
  go_enter Tryz.func10, Tryz.ntmps10
  go_wp2_with fail
  go_ret
  exact ⟨rfl, (by repeat first | exact Fr.refl _ _ | refine Fr.alloc ?_ _ | refine Fr.setCell (p := ⟨_, _, none⟩) ?_ (.inr (by simp)) _)⟩
/-- The reference's Formed. -/
theorem gformed_any (cl nu ac op rc ve wa ow : Nat) (x : Value) (rs : ByteArray) (F : List F5) (w : World) (hx : Fds w x F) (hl : F.length ≤ 140737488355328) (hv : ∀ f ∈ F, f.v < 4294967296 ∧ f.u < 256) (hve : ve < 4294967296) :
    Calls Tryz.prog 10 #[.agg #[.int .u32 (cl : Nat), .int .u32 (nu : Nat), .int .u32 (ac : Nat), .int .u8 (op : Nat), .int .u32 (rc : Nat), .int .u32 (ve : Nat), .int .u32 (wa : Nat), .int .u32 (ow : Nat), x, .string rs]] w fun e w' => e = .returned (.bool (RQ.frm ⟨cl, nu, ac, op, rc, ve, wa, ow, x, rs⟩ F)) ∧ Fr (fun _ => False) w w' := by
  have HFi : Hid (∀ gone W, Fr (fun _ => False) w W → Calls Tryz.prog 32 #[x, .bool gone] W fun e w' => e = .returned (.bool (fdsB F gone)) ∧ Fr (fun _ => False) w w') := fun gone W hW => (gfields_any x F gone W (hx.fr hW) hl hv).mono fun e w' h => ⟨h.1, hW.trans h.2 (fun _ _ h => h)⟩
  obtain ⟨xo, xc, rfl⟩ := hx.form
  have hnil : Hid (F.length = 0 → fdsB F false = true) := fun e => by
    obtain rfl := List.length_eq_zero_iff.1 e
    rfl
  by_cases h1 : op = 1
  · subst h1; exact gformed_1 cl nu ac rc ve wa ow xo xc rs F F.length w HFi
  by_cases h2 : op = 2
  · subst h2; exact gformed_2 cl nu ac rc ve wa ow xo xc rs F F.length w HFi
  by_cases h3 : op = 3
  · subst h3; exact gformed_3 cl nu ac rc ve wa ow xo xc rs F F.length w HFi rfl hnil
  by_cases h4 : op = 4
  · subst h4; exact gformed_4 cl nu ac rc ve wa ow xo xc rs F F.length w HFi rfl hnil
  by_cases h5 : op = 5
  · subst h5; exact gformed_5 cl nu ac rc ve wa ow xo xc rs F F.length w HFi rfl hnil
  by_cases h6 : op = 6
  · subst h6; exact gformed_6 cl nu ac rc ve wa ow xo xc rs F F.length w HFi rfl hnil hve
  by_cases h7 : op = 7
  · subst h7; exact gformed_7 cl nu ac rc ve wa ow xo xc rs F F.length w HFi rfl hnil
  rw [show RQ.frm ⟨cl, nu, ac, op, rc, ve, wa, ow, .slice xo F.length xc, rs⟩ F = false by unfold RQ.frm; simp [h1, h2, h3, h4, h5, h6, h7]]
  exact gformed_no cl nu ac op rc ve wa ow xo _ xc rs w h1 h2 h3 h4 h5 h6 h7
end Go.Proofs.YtciblhmmpamjoaaGreatDoor

namespace Go.Proofs.YtciblhmmpamjoaaGreatDoor
open Go.RowKit Go.Shelf

set_option maxHeartbeats 2000000 in
set_option maxRecDepth 100000 in
/-- Marked, of what Copied made. -/
theorem marked_any (cl nu ac op rc ve wa ow : Nat) (g cap : Nat) (base : Nat) (x : Value) (rs : ByteArray) (F : List F5) (w : World) (hm : Mkd w base (.slice (some ⟨g, 0, none⟩) F.length cap) F) (hx : Fds w x F) (hl : F.length ≤ 1048576) :
    Calls Tryz.prog 11 #[.agg #[.int .u32 (cl : Nat), .int .u32 (nu : Nat), .int .u32 (ac : Nat), .int .u8 (op : Nat), .int .u32 (rc : Nat), .int .u32 (ve : Nat), .int .u32 (wa : Nat), .int .u32 (ow : Nat), .slice (some ⟨g, 0, none⟩) F.length cap, .string rs], .agg #[.int .u32 (cl : Nat), .int .u32 (nu : Nat), .int .u32 (ac : Nat), .int .u8 (op : Nat), .int .u32 (rc : Nat), .int .u32 (ve : Nat), .int .u32 (wa : Nat), .int .u32 (ow : Nat), x, .string rs]] w fun e w' => e = .returned (.bool true) ∧ Fr (fun _ => False) w w' := by
  have HSR := hide (fun W (hW : Fr (fun _ => False) w W) => sameR_any cl nu ac op rc ve wa ow (.slice (some ⟨g, 0, none⟩) F.length cap) x rs F W ((hm.fr hW).fds) (hx.fr hW) (by omega))
  obtain ⟨xo, xc, rfl⟩ := hx.form
  obtain ⟨g', cap', e, hcap, ho⟩ := hm.o
  cases e
  obtain ⟨_, _, e1, m0, _⟩ := ho.fds.at_ F.length (by simp)
  cases e1
  obtain ⟨_, _, e2, m1, _⟩ := ho.fds.at_ (F.length + 1) (by simp)
  cases e2
  rw [show (F ++ [mkF, mkF])[F.length] = mkF by simp, Nat.zero_add] at m0
  rw [show (F ++ [mkF, mkF])[F.length + 1] = mkF by simp [List.getElem_append_right], Nat.zero_add] at m1
  have hgl : g < w.heap.size := lt_of_cell m0
  obtain ⟨W1, hW1⟩ : ∃ W1, W1 = (w.alloc (.cells #[.int .u32 (cl : Nat), .int .u32 (nu : Nat), .int .u32 (ac : Nat), .int .u8 (op : Nat), .int .u32 (rc : Nat), .int .u32 (ve : Nat), .int .u32 (wa : Nat), .int .u32 (ow : Nat), .slice (some ⟨g, 0, none⟩) F.length cap, .string rs] 27)).alloc (.cells #[.int .u32 (cl : Nat), .int .u32 (nu : Nat), .int .u32 (ac : Nat), .int .u8 (op : Nat), .int .u32 (rc : Nat), .int .u32 (ve : Nat), .int .u32 (wa : Nat), .int .u32 (ow : Nat), .slice xo F.length xc, .string rs] 27) := ⟨_, rfl⟩
  have F1 : Hid (Fr (fun _ => False) w W1) := by rw [hW1]; exact (box1 w _).trans (box1 _ _) (fun _ _ h => h)
  have k1 : W1.heap[w.heap.size]? = some (.cells #[.int .u32 (cl : Nat), .int .u32 (nu : Nat), .int .u32 (ac : Nat), .int .u8 (op : Nat), .int .u32 (rc : Nat), .int .u32 (ve : Nat), .int .u32 (wa : Nat), .int .u32 (ow : Nat), .slice (some ⟨g, 0, none⟩) F.length cap, .string rs] 27) := by rw [hW1]; exact ((box1 _ _).block _ (by simp) (fun h => h)).trans Array.getElem?_push_size
  have a8 : W1.cell? ⟨w.heap.size, 8, none⟩ = some (.slice (some ⟨g, 0, none⟩) F.length cap) := by simp [World.cell?, k1]
  have hl1 : w.heap.size < W1.heap.size := lt_of_block k1
  have c1 : (F.length : Int) + 1 < (cap : Int) := by omega
  have c2 : (F.length : Int) + 2 ≤ (cap : Int) := by omega
  have M0 := hide m0
  have M1 := hide m1
  simp only [mkF] at M0 M1
  clear hm hx ho m0 m1 hcap k1
  go_enter Tryz.func11, Tryz.ntmps11
  go_wp2_with fail
  rw [← hW1]
  clear hW1
  refine ((unhide HSR) _ (unhide F1)).mono ?_
  rintro e w2 ⟨rfl, hf2⟩
  have F2 := hide ((unhide F1).trans hf2 (fun _ _ h => h))
  have p8 := (hf2.cell (p := ⟨w.heap.size, 8, none⟩) hl1 (fun h => h)).trans a8
  have m0 := ((unhide F2).cell (p := ⟨g, F.length * 5, none⟩) hgl (fun h => h)).trans (unhide M0)
  have m1 := ((unhide F2).cell (p := ⟨g, (F.length + 1) * 5, none⟩) hgl (fun h => h)).trans (unhide M1)
  clear hf2 a8 HSR
  go_wp2_with fail
  go_ret
  exact ⟨rfl, unhide F2⟩
set_option maxHeartbeats 4000000 in
set_option maxRecDepth 100000 in
/-- RecordForms. -/
theorem rforms_any (cl nu ac op rc ve wa ow : Nat) (x : Value) (rs : ByteArray) (F : List F5) (w : World) (hx : Fds w x F) (hl : F.length ≤ 1048576) (hv : ∀ f ∈ F, f.v < 4294967296 ∧ f.u < 256) (hve : ve < 4294967296) (hg : GU w) :
    Calls Tryz.prog 3 #[.agg #[.int .u32 (cl : Nat), .int .u32 (nu : Nat), .int .u32 (ac : Nat), .int .u8 (op : Nat), .int .u32 (rc : Nat), .int .u32 (ve : Nat), .int .u32 (wa : Nat), .int .u32 (ow : Nat), x, .string rs]] w fun e w' => e = .returned (.bool true) ∧ Fr (fun _ => False) w w' := by
  obtain ⟨xo, xc, rfl⟩ := hx.form
  obtain ⟨W1, hW1⟩ : ∃ W1, W1 = w.alloc (.cells #[.int .u32 (cl : Nat), .int .u32 (nu : Nat), .int .u32 (ac : Nat), .int .u8 (op : Nat), .int .u32 (rc : Nat), .int .u32 (ve : Nat), .int .u32 (wa : Nat), .int .u32 (ow : Nat), .slice xo F.length xc, .string rs] 27) := ⟨_, rfl⟩
  have hf1 : Fr (fun _ => False) w W1 := by rw [hW1]; exact box1 w _
  have hk1 : W1.heap[w.heap.size]? = some (.cells #[.int .u32 (cl : Nat), .int .u32 (nu : Nat), .int .u32 (ac : Nat), .int .u8 (op : Nat), .int .u32 (rc : Nat), .int .u32 (ve : Nat), .int .u32 (wa : Nat), .int .u32 (ow : Nat), .slice xo F.length xc, .string rs] 27) := by rw [hW1]; exact Array.getElem?_push_size
  have HCo := hide (copied_any cl nu ac op rc ve wa ow (.slice xo F.length xc) rs F W1 (hx.fr hf1) hl)
  have H1 := hide (And.intro hk1 hf1)
  have HX := hide (And.intro hx (And.intro hv hg))
  have HVE := hide hve
  clear hve
  clear hx hv hg hk1 hf1
  go_enter Tryz.func3, Tryz.ntmps3
  go_wp2_with fail
  rw [← hW1]
  clear hW1
  refine (unhide HCo).mono ?_
  rintro e w3 ⟨y, rfl, hm3, hf3⟩
  obtain ⟨g, cap, rfl, _, _⟩ := hm3.o
  obtain ⟨W4, hst, hk4, hf4⟩ := req_put (W := w3.alloc (.cells #[.int .u32 0, .int .u32 0, .int .u32 0, .int .u8 0, .int .u32 0, .int .u32 0, .int .u32 0, .int .u32 0, .slice none 0 0, .string ⟨#[]⟩] 27)) (g := w3.heap.size) Array.getElem?_push_size ⟨cl, nu, ac, op, rc, ve, wa, ow, .slice (some ⟨g, 0, none⟩) F.length cap, rs⟩ rfl
  have hf34 : Fr (fun _ => False) w3 W4 := (box1 w3 _).absorb hf4 (fun k hk => by omega)
  have hf14 : Fr (fun _ => False) W1 W4 := hf3.trans hf34 (fun _ _ h => h)
  have FW := hide ((unhide H1).2.trans hf14 (fun _ _ h => h))
  obtain ⟨b, hb⟩ : ∃ b, b = w3.heap.size := ⟨_, rfl⟩
  rw [← hb] at hk4
  have K4 := hide (And.intro hk4 (And.intro ((hf14.block _ (lt_of_block (unhide H1).1) (fun h => h)).trans (unhide H1).1) (hm3.fr hf34)))
  obtain ⟨B, hB⟩ : ∃ B, RQ.frm ⟨cl, nu, ac, op, rc, ve, wa, ow, .slice xo F.length xc, rs⟩ F = B := ⟨_, rfl⟩
  have hB2 : RQ.frm ⟨cl, nu, ac, op, rc, ve, wa, ow, .slice (some ⟨g, 0, none⟩) F.length cap, rs⟩ F = B := hB
  have HFo : Hid (∀ W, Fr (fun _ => False) W4 W → Calls Tryz.prog 9 #[.agg #[.int .u32 (cl : Nat), .int .u32 (nu : Nat), .int .u32 (ac : Nat), .int .u8 (op : Nat), .int .u32 (rc : Nat), .int .u32 (ve : Nat), .int .u32 (wa : Nat), .int .u32 (ow : Nat), .slice (some ⟨g, 0, none⟩) F.length cap, .string rs]] W fun e w' => e = .returned (.bool B) ∧ Fr (fun _ => False) W w') := fun W hW => by
    rw [← hB2]
    exact formed_any ⟨cl, nu, ac, op, rc, ve, wa, ow, .slice (some ⟨g, 0, none⟩) F.length cap, rs⟩ F W (((unhide K4).2.2.fr hW).fds) (by omega) (unhide HX).2.1
  have HGf : Hid (∀ W, Fr (fun _ => False) W4 W → Calls Tryz.prog 10 #[.agg #[.int .u32 (cl : Nat), .int .u32 (nu : Nat), .int .u32 (ac : Nat), .int .u8 (op : Nat), .int .u32 (rc : Nat), .int .u32 (ve : Nat), .int .u32 (wa : Nat), .int .u32 (ow : Nat), .slice xo F.length xc, .string rs]] W fun e w' => e = .returned (.bool B) ∧ Fr (fun _ => False) W w') := fun W hW => by
    rw [← hB]
    exact gformed_any cl nu ac op rc ve wa ow (.slice xo F.length xc) rs F W ((unhide HX).1.fr ((unhide FW).trans hW (fun _ _ h => h))) (by omega) (unhide HX).2.1 (unhide HVE)
  have HMk : Hid (∀ W, Fr (fun _ => False) W4 W → Calls Tryz.prog 11 #[.agg #[.int .u32 (cl : Nat), .int .u32 (nu : Nat), .int .u32 (ac : Nat), .int .u8 (op : Nat), .int .u32 (rc : Nat), .int .u32 (ve : Nat), .int .u32 (wa : Nat), .int .u32 (ow : Nat), .slice (some ⟨g, 0, none⟩) F.length cap, .string rs], .agg #[.int .u32 (cl : Nat), .int .u32 (nu : Nat), .int .u32 (ac : Nat), .int .u8 (op : Nat), .int .u32 (rc : Nat), .int .u32 (ve : Nat), .int .u32 (wa : Nat), .int .u32 (ow : Nat), .slice xo F.length xc, .string rs]] W fun e w' => e = .returned (.bool true) ∧ Fr (fun _ => False) W w') := fun W hW => marked_any cl nu ac op rc ve wa ow g cap _ (.slice xo F.length xc) rs F W ((unhide K4).2.2.fr hW) ((unhide HX).1.fr ((unhide FW).trans hW (fun _ _ h => h))) hl
  have HAw : Hid (∀ W, Fr (fun _ => False) W4 W → Calls Tryz.prog 12 #[] W fun e w' => e = .returned (.bool true) ∧ Fr (fun _ => False) W w') := fun W hW => awake11 W ((unhide HX).2.2.fr ((unhide FW).trans hW (fun _ _ h => h)))
  have HS : Hid (∀ W, Fr (fun _ => False) W4 W → W.cell? ⟨w.heap.size, 0, none⟩ = some (.int .u32 (cl : Nat)) ∧ W.cell? ⟨w.heap.size, 1, none⟩ = some (.int .u32 (nu : Nat)) ∧ W.cell? ⟨w.heap.size, 2, none⟩ = some (.int .u32 (ac : Nat)) ∧ W.cell? ⟨w.heap.size, 3, none⟩ = some (.int .u8 (op : Nat)) ∧ W.cell? ⟨w.heap.size, 4, none⟩ = some (.int .u32 (rc : Nat)) ∧ W.cell? ⟨w.heap.size, 5, none⟩ = some (.int .u32 (ve : Nat)) ∧ W.cell? ⟨w.heap.size, 6, none⟩ = some (.int .u32 (wa : Nat)) ∧ W.cell? ⟨w.heap.size, 7, none⟩ = some (.int .u32 (ow : Nat)) ∧ W.cell? ⟨w.heap.size, 8, none⟩ = some (.slice xo F.length xc) ∧ W.cell? ⟨w.heap.size, 9, none⟩ = some (.string rs) ∧ W.cell? ⟨b, 0, none⟩ = some (.int .u32 (cl : Nat)) ∧ W.cell? ⟨b, 1, none⟩ = some (.int .u32 (nu : Nat)) ∧ W.cell? ⟨b, 2, none⟩ = some (.int .u32 (ac : Nat)) ∧ W.cell? ⟨b, 3, none⟩ = some (.int .u8 (op : Nat)) ∧ W.cell? ⟨b, 4, none⟩ = some (.int .u32 (rc : Nat)) ∧ W.cell? ⟨b, 5, none⟩ = some (.int .u32 (ve : Nat)) ∧ W.cell? ⟨b, 6, none⟩ = some (.int .u32 (wa : Nat)) ∧ W.cell? ⟨b, 7, none⟩ = some (.int .u32 (ow : Nat)) ∧ W.cell? ⟨b, 8, none⟩ = some (.slice (some ⟨g, 0, none⟩) F.length cap) ∧ W.cell? ⟨b, 9, none⟩ = some (.string rs)) := fun W hW => by
    have e1 := (hW.block _ (lt_of_block (unhide K4).2.1) (fun h => h)).trans (unhide K4).2.1
    have e2 := (hW.block _ (lt_of_block (unhide K4).1) (fun h => h)).trans (unhide K4).1
    refine ⟨?_, ?_, ?_, ?_, ?_, ?_, ?_, ?_, ?_, ?_, ?_, ?_, ?_, ?_, ?_, ?_, ?_, ?_, ?_, ?_⟩ <;> simp [World.cell?, e1, e2, RQ.cs]
  have HST := hide hst
  clear hm3 hf3 hst hk4 hf4 hf34 hf14 hB hB2 HCo HX H1
  go_wp2_with (refine wpList_stN rfl 27 (.tmp 3) (.tmp 5) rfl _ _ rfl rfl (unhide HST) ?_)
  rw [← hb]
  clear hb HST K4
  refine wp_region_noPanic ?_
  refine wp_region_held_drew (S := (fun W => W.cell? ⟨w.heap.size, 0, none⟩ = some (.int .u32 (cl : Nat)) ∧ W.cell? ⟨w.heap.size, 1, none⟩ = some (.int .u32 (nu : Nat)) ∧ W.cell? ⟨w.heap.size, 2, none⟩ = some (.int .u32 (ac : Nat)) ∧ W.cell? ⟨w.heap.size, 3, none⟩ = some (.int .u8 (op : Nat)) ∧ W.cell? ⟨w.heap.size, 4, none⟩ = some (.int .u32 (rc : Nat)) ∧ W.cell? ⟨w.heap.size, 5, none⟩ = some (.int .u32 (ve : Nat)) ∧ W.cell? ⟨w.heap.size, 6, none⟩ = some (.int .u32 (wa : Nat)) ∧ W.cell? ⟨w.heap.size, 7, none⟩ = some (.int .u32 (ow : Nat)) ∧ W.cell? ⟨w.heap.size, 8, none⟩ = some (.slice xo F.length xc) ∧ W.cell? ⟨w.heap.size, 9, none⟩ = some (.string rs) ∧ W.cell? ⟨b, 0, none⟩ = some (.int .u32 (cl : Nat)) ∧ W.cell? ⟨b, 1, none⟩ = some (.int .u32 (nu : Nat)) ∧ W.cell? ⟨b, 2, none⟩ = some (.int .u32 (ac : Nat)) ∧ W.cell? ⟨b, 3, none⟩ = some (.int .u8 (op : Nat)) ∧ W.cell? ⟨b, 4, none⟩ = some (.int .u32 (rc : Nat)) ∧ W.cell? ⟨b, 5, none⟩ = some (.int .u32 (ve : Nat)) ∧ W.cell? ⟨b, 6, none⟩ = some (.int .u32 (wa : Nat)) ∧ W.cell? ⟨b, 7, none⟩ = some (.int .u32 (ow : Nat)) ∧ W.cell? ⟨b, 8, none⟩ = some (.slice (some ⟨g, 0, none⟩) F.length cap) ∧ W.cell? ⟨b, 9, none⟩ = some (.string rs))) (by kernel_rfl) ((unhide HS) _ (Fr.refl _ _).drew) (fun hHeld => ?_)
  have F5 := hide ((Fr.refl (fun _ => False) W4).drew)
  refine wpAnyH_take (i := 0) (v := ?_) rfl (by kernel_rfl) (by kernel_rfl) (by kernel_rfl) (fun _ _ _ h => h) (Or.inl ⟨by rfl, ?_⟩) hHeld ?_
  rotate_left
  · intro w hSw; (try dsimp only at hSw); go_simp; (try with_reducible rfl)
  (try simp only [Act.put, List.getElem_toArray, List.getElem_cons_zero, List.setIfInBounds_toArray, List.set_cons_zero, List.set_cons_succ])
  refine wpAnyH_take (i := 2) (v := ?_) rfl (by kernel_rfl) (by kernel_rfl) (by kernel_rfl) (fun _ _ _ h => h) (Or.inl ⟨by rfl, ?_⟩) hHeld ?_
  rotate_left
  · intro w hSw; (try dsimp only at hSw); go_simp; (try with_reducible rfl)
  (try simp only [Act.put, List.getElem_toArray, List.getElem_cons_zero, List.getElem_cons_succ, List.setIfInBounds_toArray, List.set_cons_zero, List.set_cons_succ])
  refine wpAnyH_ready (rs := [1]) (by kernel_rfl) (by simp) (AllReadyH.cons rfl (fun K hK => ?_) AllReadyH.nil)
  go_simp
  refine ((unhide HFo) _ (unhide F5)).mono ?_
  rintro e w6 ⟨rfl, f6⟩
  have F6 := hide ((unhide F5).trans f6 (fun _ _ h => h))
  clear f6
  go_simp
  refine hK.out _ _ ((unhide HS) _ (unhide F6)) (fun hHeld => ?_)
  clear hK K
  (try simp only [Act.put, List.getElem_toArray, List.getElem_cons_zero, List.getElem_cons_succ, List.setIfInBounds_toArray, List.set_cons_zero, List.set_cons_succ])
  refine wpAnyH_ready (rs := [3]) (by kernel_rfl) (by simp) (AllReadyH.cons rfl (fun K hK => ?_) AllReadyH.nil)
  go_simp
  refine ((unhide HGf) _ (unhide F6)).mono ?_
  rintro e w7 ⟨rfl, f7⟩
  have F7 := hide ((unhide F6).trans f7 (fun _ _ h => h))
  clear f7
  go_simp
  refine hK.out _ _ ((unhide HS) _ (unhide F7)) (fun hHeld => ?_)
  clear hK K
  (try simp only [Act.put, List.getElem_toArray, List.getElem_cons_zero, List.getElem_cons_succ, List.setIfInBounds_toArray, List.set_cons_zero, List.set_cons_succ])
  refine wpAnyH_take (i := 4) (v := ?_) rfl (by kernel_rfl) (by kernel_rfl) (by kernel_rfl) (fun _ _ _ h => h) (Or.inl ⟨by rfl, ?_⟩) hHeld ?_
  rotate_left
  · intro w hSw; (try dsimp only at hSw); go_simp; (try with_reducible rfl)
  (try simp only [Act.put, List.getElem_toArray, List.getElem_cons_zero, List.getElem_cons_succ, List.setIfInBounds_toArray, List.set_cons_zero, List.set_cons_succ])
  refine wpAnyH_take (i := 5) (v := ?_) rfl (by kernel_rfl) (by kernel_rfl) (by kernel_rfl) (fun _ _ _ h => h) (Or.inl ⟨by rfl, ?_⟩) hHeld ?_
  rotate_left
  · intro w hSw; (try dsimp only at hSw); go_simp; (try with_reducible rfl)
  (try simp only [Act.put, List.getElem_toArray, List.getElem_cons_zero, List.getElem_cons_succ, List.setIfInBounds_toArray, List.set_cons_zero, List.set_cons_succ])
  refine wpAnyH_take (i := 6) (v := ?_) rfl (by kernel_rfl) (by kernel_rfl) (by kernel_rfl) (fun _ _ _ h => h) (Or.inl ⟨by rfl, ?_⟩) hHeld ?_
  rotate_left
  · intro w hSw; (try dsimp only at hSw); go_simp; (try with_reducible rfl)
  (try simp only [Act.put, List.getElem_toArray, List.getElem_cons_zero, List.getElem_cons_succ, List.setIfInBounds_toArray, List.set_cons_zero, List.set_cons_succ])
  refine wpAnyH_take (i := 7) (v := ?_) rfl (by kernel_rfl) (by kernel_rfl) (by kernel_rfl) (fun _ _ _ h => h) (Or.inl ⟨by rfl, ?_⟩) hHeld ?_
  rotate_left
  · intro w hSw; (try dsimp only at hSw); go_simp; (try with_reducible rfl)
  (try simp only [Act.put, List.getElem_toArray, List.getElem_cons_zero, List.getElem_cons_succ, List.setIfInBounds_toArray, List.set_cons_zero, List.set_cons_succ])
  refine wpAnyH_ready (rs := [8]) (by kernel_rfl) (by simp) (AllReadyH.cons rfl (fun K hK => ?_) AllReadyH.nil)
  go_simp
  refine ((unhide HMk) _ (unhide F7)).mono ?_
  rintro e w8 ⟨rfl, f8⟩
  have F8 := hide ((unhide F7).trans f8 (fun _ _ h => h))
  clear f8
  go_simp
  refine hK.out _ _ ((unhide HS) _ (unhide F8)) (fun hHeld => ?_)
  clear hK K
  (try simp only [Act.put, List.getElem_toArray, List.getElem_cons_zero, List.getElem_cons_succ, List.setIfInBounds_toArray, List.set_cons_zero, List.set_cons_succ])
  refine wpAnyH_take (i := 9) (v := ?_) rfl (by kernel_rfl) (by kernel_rfl) (by kernel_rfl) (fun _ _ _ h => h) (Or.inl ⟨by rfl, ?_⟩) hHeld ?_
  rotate_left
  · intro w hSw; (try dsimp only at hSw); go_simp; (try with_reducible rfl)
  (try simp only [Act.put, List.getElem_toArray, List.getElem_cons_zero, List.getElem_cons_succ, List.setIfInBounds_toArray, List.set_cons_zero, List.set_cons_succ])
  refine wpAnyH_take (i := 10) (v := ?_) rfl (by kernel_rfl) (by kernel_rfl) (by kernel_rfl) (fun _ _ _ h => h) (Or.inl ⟨by rfl, ?_⟩) hHeld ?_
  rotate_left
  · intro w hSw; (try dsimp only at hSw); go_simp; (try with_reducible rfl)
  (try simp only [Act.put, List.getElem_toArray, List.getElem_cons_zero, List.getElem_cons_succ, List.setIfInBounds_toArray, List.set_cons_zero, List.set_cons_succ])
  refine wpAnyH_ready (rs := [11]) (by kernel_rfl) (by simp) (AllReadyH.cons rfl (fun K hK => ?_) AllReadyH.nil)
  go_simp
  refine ((unhide HAw) _ (unhide F8)).mono ?_
  rintro e w9 ⟨rfl, f9⟩
  have F9 := hide ((unhide F8).trans f9 (fun _ _ h => h))
  clear f9
  go_simp
  refine hK.out _ _ ((unhide HS) _ (unhide F9)) (fun hHeld => ?_)
  clear hK K
  (try simp only [Act.put, List.getElem_toArray, List.getElem_cons_zero, List.getElem_cons_succ, List.setIfInBounds_toArray, List.set_cons_zero, List.set_cons_succ])
  refine wpAnyH_take (i := 12) (v := ?_) rfl (by kernel_rfl) (by kernel_rfl) (by kernel_rfl) (fun _ _ _ h => h) (Or.inl ⟨by rfl, ?_⟩) hHeld ?_
  rotate_left
  · intro w hSw; (try dsimp only at hSw); go_simp; (try with_reducible rfl)
  (try simp only [Act.put, List.getElem_toArray, List.getElem_cons_zero, List.getElem_cons_succ, List.setIfInBounds_toArray, List.set_cons_zero, List.set_cons_succ])
  refine wpAnyH_take (i := 13) (v := ?_) rfl (by kernel_rfl) (by kernel_rfl) (by kernel_rfl) (fun _ _ _ h => h) (Or.inl ⟨by rfl, ?_⟩) hHeld ?_
  rotate_left
  · intro w hSw; (try dsimp only at hSw); go_simp; (try with_reducible rfl)
  (try simp only [Act.put, List.getElem_toArray, List.getElem_cons_zero, List.getElem_cons_succ, List.setIfInBounds_toArray, List.set_cons_zero, List.set_cons_succ])
  refine wpAnyH_done (by kernel_rfl) ?_ _
  refine NoPanic.normal ?_
  go_wp2_with fail
  go_ret
  exact ⟨rfl, (unhide FW).trans (unhide F9) (fun _ _ h => h)⟩
end Go.Proofs.YtciblhmmpamjoaaGreatDoor

namespace Go.Proofs.YtciblhmmpamjoaaGreatDoor
open Go.ChangeShapes Go.WideShapes Go.ChangeAt Go.RowKit
set_option maxRecDepth 100000

theorem rfor_contract (H : Type) (enc : TypeId × Value → H) (W : World) (base : Nat) (args : Array Value) (ds gs : List (DataW H)) (before : List MemPlace)
    (hval : ∀ (j : Nat) t v, Tryz.f3.params[j]? = some t → args[j]? = some v → Value.okWide Tryz.prog W .any base t v)
    (hW : DataW.Whole enc Tryz.prog Tryz.f3.params.toList Rows.recordFormsSpec.vars false W args.toList ds gs before) (hk : Rows.uptoSmall H (ds ++ gs) = true) (hL : laidMetH Tryz.prog Rows.recordFormsUptoRow.laid W) :
    Calls Tryz.prog 3 args W fun e W' => ∃ v, e = .returned v ∧ Rows.recordFormsSpec.post enc Tryz.prog Tryz.f3 false true false false W args v W' := by
  have hW' := hW
  obtain ⟨p, q, hA0, hV, rfl, hfz, hnd⟩ := hW
  have hA : DataW.TrodAll enc Tryz.prog W 0 (fun _ => true) true Tryz.f3.params.toList args.toList ds p := hA0
  rw [Tryz.params3] at hA hval
  obtain ⟨v0, vs0, d0, ds0, p0, q0, hargs, rfl, rfl, h0, r0⟩ := trodAll_cons hA
  obtain ⟨rfl, rfl, rfl⟩ := trodAll_nil r0
  obtain rfl : args = #[v0] := by cases args; simp_all
  obtain ⟨rfl, rfl⟩ := trodVars_none hV
  have hbulk : Rows.uptoBulk d0 + 0 ≤ 1048576 := by
    have h := of_decide_eq_true hk
    simpa only [List.append_nil, Rows.uptoBulkAll] using h
  have hL2 : laidMet Tryz.prog [("almoner/quant.units", Rows.laid_almoner_quant_units)] W := hL
  have hg := gu_of_laid hL2 (.head _)
  obtain ⟨s, F, rfl, hF, hac, hve, hfv, bF⟩ := rq_of_reading (hval 0 27 v0 rfl rfl) h0
  obtain ⟨cl, nu, ac, op, rc, ve, wa, ow, x, rs⟩ := s
  refine (rforms_any cl nu ac op rc ve wa ow x rs F W hF.f (by omega) hfv hve hg).mono fun e W' ⟨he, hf⟩ => ?_
  subst he
  have hlt : ∀ x ∈ p0 ++ [], x.block < W.heap.size := fun x hx => hW'.lt x (by simpa using hx)
  have hb := hf.below
  refine ⟨_, rfl, _, _, _, [], p0 ++ [], [], hW', ?_, ?_, ?_, hb.frame _, fun h => by cases h⟩
  · exact trodAll_cons_mk (shut_bool Tryz.underlying4 true) trodAll_mk0
  · exact trodAll_cons_mk (Below.trod (by kernel_rfl) (by kernel_rfl) (by decide +kernel) h0 hb (fun x hx => hlt x (by simp [hx]))) trodAll_mk0
  · rfl
theorem rfor_laid_met (os : Os) : laidMetH Tryz.prog Rows.recordFormsUptoRow.laid ((uWorld os).forCall (fun _ _ => 0) ⟨#[], #[.agg #[.int .u32 0, .int .u32 0, .int .u32 0, .int .u8 0, .int .u32 0, .int .u32 0, .int .u32 0, .int .u32 0, .slice none 0 0, .string ⟨#[]⟩]], []⟩).memory :=
  laidMetH_of_parts (laidMet_of_run' 8 (by kernel_rfl) (by kernel_rfl)) (by kernel_rfl)
theorem rfor_reads (os : Os) {H : Type} (enc : TypeId × Value → H) : ∃ places, DataW.whole enc Tryz.prog ((uWorld os).forCall (fun _ _ => 0) ⟨#[], #[.agg #[.int .u32 0, .int .u32 0, .int .u32 0, .int .u8 0, .int .u32 0, .int .u32 0, .int .u32 0, .int .u32 0, .slice none 0 0, .string ⟨#[]⟩]], []⟩).memory Tryz.f3.params.toList Rows.recordFormsSpec.vars false #[Value.agg #[.int .u32 0, .int .u32 0, .int .u32 0, .int .u8 0, .int .u32 0, .int .u32 0, .int .u32 0, .int .u32 0, .slice none 0 0, .string ⟨#[]⟩]].toList 8 = some ([.agg [.agg [.lit (.int .u32 0), .lit (.int .u32 0)], .lit (.int .u32 0), .lit (.int .u8 0), .lit (.int .u32 0), .lit (.int .u32 0), .lit (.int .u32 0), .lit (.int .u32 0), .nil, .lit (.string [])]], [], places) :=
  ⟨[], by kernel_rfl⟩
theorem rfor_lifted (os : Os) (started : os.Started) (H : Type) (enc : TypeId × Value → H) (F : Stop.Interp) :
    ReturnsInHanded {} Tryz.checked os 3 .any ((Rows.OpenSpec.upto Rows.recordFormsSpec).preRow enc Tryz.prog Tryz.f3 Rows.recordFormsUptoRow.domain false Rows.recordFormsUptoRow.laid) (((Rows.OpenSpec.upto Rows.recordFormsSpec).at F).post enc Tryz.prog Tryz.f3 false true false false) := by
  obtain ⟨places, hx⟩ := rfor_reads os enc
  refine returnsInHanded_of_row (C := Tryz.checked) (s := Rows.OpenSpec.upto Rows.recordFormsSpec) Tryz.ownKnob started (by kernel_rfl) Tryz.func3
    (witness_row_atRef (enc := enc) (C := Tryz.checked) false (uWorld os) #[.agg #[.int .u32 0, .int .u32 0, .int .u32 0, .int .u8 0, .int .u32 0, .int .u32 0, .int .u32 0, .int .u32 0, .slice none 0 0, .string ⟨#[]⟩]] rfl (by kernel_rfl) (by kernel_rfl) (by kernel_rfl)
      (OpenSpec.preRow_of_cond 8 hx (by kernel_rfl) (fun k hk => by cases hk; kernel_rfl) (by kernel_rfl) (rfor_laid_met os))) ?_
  intro W base args ds gs before hval hW _ hcond _ hL _ _
  exact rfor_contract H enc W base args ds gs before hval hW (hcond _ rfl) hL
theorem rfor_said : Rows.RecordFormsUptoSaid :=
  OpenClaim.holds_of_cond 3 Tryz.f3 rfl rfl rfl rfl rfl rfl rfl ⟨rfl, rfl, rfl, rfl, rfl⟩ rfl rfl rfl rfl rfl (by kernel_rfl) Tryz.func3 (by kernel_rfl)
    (of_decide_eq_true (by kernel_rfl)) (by unfold Func.isWrapper; first | (rw [if_pos (by decide +kernel)]; kernel_rfl) | (rw [if_neg (by decide +kernel)]; exact ⟨rfl, rfl⟩))
    (fun os started H enc _ F => by rw [OpenClaim.pre_eq_preRow]; exact rfor_lifted os started H enc F)
theorem rfor_plain (f : FuncId) (fn : Func) (hf : Tryz.pinned.checked.prog.funcNamed Rows.recordFormsUptoRow.func = some f) (hfn : Tryz.pinned.checked.prog.funcs[f]? = some fn) :
    true = Tryz.pinned.checked.prog.looks [] ∧ ∀ (j : Nat) t, fn.params[j]? = some t → Tryz.pinned.checked.prog.wantsStandIn t = false := by
  obtain rfl : f = 3 := Option.some.inj ((show Tryz.prog.funcNamed Rows.recordFormsUptoRow.func = some 3 by kernel_rfl).symm.trans hf) |>.symm
  obtain rfl : fn = Tryz.f3 := (Option.some.inj (Tryz.func3.symm.trans hfn)).symm
  refine ⟨by kernel_rfl, fun j t ht => ?_⟩
  rw [Tryz.params3] at ht
  have ht' : t = 27 := by
    have h := Array.mem_of_getElem? ht
    simpa using h
  subst ht'
  exact (show Tryz.prog.wantsStandIn 27 = false by kernel_rfl)
/-- THE SECOND FORM's CARD. -/
theorem rfor_card : Rows.RecordFormsUptoCardSaid :=
  Claim7.holds_tied_plain_at .later [] _ _ _ _ rfor_said (fun _ h => by cases h) (by kernel_rfl) (fun _ h => by cases h) recordFormsUpto_row_tie rfl ⟨rfl, rfl⟩ (by kernel_rfl) rfl rfor_plain (by kernel_rfl)
#print axioms rfor_card
end Go.Proofs.YtciblhmmpamjoaaGreatDoor

