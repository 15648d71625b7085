import Derived.Test.YtmmaddlphclpnaaGreatDoorXrh
namespace Go.Proofs.YtmmaddlphclpnaaGreatDoor
open Go.RowKit
set_option maxRecDepth 100000

theorem load_c (a : Addr) (d : Int) (w : World) (h : w.cell? a = some (.int .u32 d)) : Calls Tryz.prog 146 #[.pointer (some a)] w fun e w' => e = .returned (.bool (d != 0)) ∧ w' = w := by
  have hl := run_call_load (P := Tryz.prog) Tryz.func162 (by kernel_rfl) (by kernel_rfl) (by kernel_rfl) .u32 (by kernel_rfl) h
  go_enter Tryz.func146, Tryz.ntmps146
  go_wp2
  go_ret
  exact ⟨rfl, rfl⟩
set_option maxRecDepth 100000 in
set_option maxHeartbeats 1600000 in
theorem slow_any (b t : Nat) (hbt : b ≠ t) (w : World) (hO : OnceAt w b 0) (hT : TabAt w t (fun _ => 0)) :
    Calls Tryz.prog 147 #[.pointer (some ⟨b, 0, none⟩), .func (.func 133) #[.pointer (some ⟨t, 0, none⟩)] #[]] w fun e w' => e = .returned (.tuple #[]) ∧
      OnceAt w' b 1 ∧ TabAt w' t Tb ∧ Fr (fun k => k = b ∨ k = t) w w' ∧ w'.heap.size = w.heap.size := by
  have hb := lt_of_cell hO.c0
  have hf1 : Fr (fun k => k = b) w (w.setCell ⟨b, 1, none⟩ (.int .i32 1)) := Fr.setCell (S := fun k => k = b) (Fr.refl _ _) (p := ⟨b, 1, none⟩) (.inl rfl) _
  have hnot : ∀ (x : Bool) (w : World), (Op.unary .not (.bool x)).run Tryz.prog w = .ok (.bool (!x)) w := fun _ _ => rfl
  have hT1 := hT.fr hf1 (fun e => hbt e.symm)
  have c1 := hO.c1
  have f1 := hO.f1
  have HO := hide (And.intro hO (And.intro hT1 hf1))
  clear hO hT hT1 hf1
  go_enter_defers Tryz.func147, Tryz.ntmps147
  go_wp2_with (go_at_call 163; refine (lock_free ⟨b, 1, none⟩ _ c1 f1).mono ?_; rintro e w' ⟨rfl, rfl⟩)
  refine (load_c ⟨b, 0, none⟩ 0 _ ((World.cell?_setCell_other _ ⟨b, 1, none⟩ ⟨b, 0, none⟩ _ (by simp)).trans (unhide HO).1.c0)).mono ?_
  rintro e w' ⟨rfl, rfl⟩
  rw [show ((0 : Int) != 0) = false from rfl]
  go_wp2_with fail
  refine (cfill_any t _ (unhide HO).2.1).mono ?_
  rintro e w2 ⟨rfl, hT2, hF2, hs2⟩
  have hO := (unhide HO).1
  have e1 : w2.cell? ⟨b, 1, none⟩ = some (.int .i32 1) := (hF2.cell (p := ⟨b, 1, none⟩) (by simpa [World.setCell] using hb) hbt).trans (World.cell?_setCell_same w _ _ c1)
  have e0 : w2.cell? ⟨b, 0, none⟩ = some (.int .u32 0) := (hF2.cell (p := ⟨b, 0, none⟩) (by simpa [World.setCell] using hb) hbt).trans ((World.cell?_setCell_other _ ⟨b, 1, none⟩ ⟨b, 0, none⟩ _ (by simp)).trans hO.c0)
  have g1 : w2.frozen? ⟨b, 1, none⟩ = false := (hF2.frozen (p := ⟨b, 1, none⟩) (by simpa [World.setCell] using hb) hbt).trans (by rw [World.frozen?_setCell]; exact f1)
  have g0 : w2.frozen? ⟨b, 0, none⟩ = false := (hF2.frozen (p := ⟨b, 0, none⟩) (by simpa [World.setCell] using hb) hbt).trans (by rw [World.frozen?_setCell]; exact hO.f0)
  have HF := hide (And.intro hT2 (And.intro hF2 hs2))
  clear hT2 hF2 hs2 hO c1 f1
  go_wp2_with fail
  refine leaves_cons (f := 165) (args := #[.pointer (some ⟨b, 0, none⟩), .bool true]) (by simp) (by simp [go_sem]) ?_
  refine (store_d ⟨b, 0, none⟩ (.int .u32 0) .returning _ e0 g0).mono ?_
  rintro e u' w'' ⟨rfl, rfl, rfl⟩
  refine leaves_cons (f := 164) (args := #[.pointer (some ⟨b, 1, none⟩)]) (by simp [settle]) (by simp [go_sem]) ?_
  refine (unlock_d ⟨b, 1, none⟩ _ _ ?_ (by simp [g1])).mono ?_
  · refine (World.cell?_setCell_other _ ⟨b, 0, none⟩ ⟨b, 1, none⟩ _ (by simp)).trans ?_
    rw [World.cell?_drew]
    exact e1
  rintro e u' w'' ⟨rfl, rfl, rfl⟩
  have q0 : (((w2.drew).setCell ⟨b, 0, none⟩ (.int .u32 1)).setCell ⟨b, 1, none⟩ (.int .i32 0)).cell? ⟨b, 0, none⟩ = some (.int .u32 1) := by
    rw [World.cell?_setCell_other _ ⟨b, 1, none⟩ ⟨b, 0, none⟩ _ (by simp)]
    exact World.cell?_setCell_same _ _ _ (by rw [World.cell?_drew]; exact e0)
  have q1 : (((w2.drew).setCell ⟨b, 0, none⟩ (.int .u32 1)).setCell ⟨b, 1, none⟩ (.int .i32 0)).cell? ⟨b, 1, none⟩ = some (.int .i32 0) := by
    refine World.cell?_setCell_same _ _ _ (u := .int .i32 1) ?_
    rw [World.cell?_setCell_other _ ⟨b, 0, none⟩ ⟨b, 1, none⟩ _ (by simp), World.cell?_drew]; exact e1
  have hF3 : Fr (fun k => k = b) w2 (((w2.drew).setCell ⟨b, 0, none⟩ (.int .u32 1)).setCell ⟨b, 1, none⟩ (.int .i32 0)) :=
    Fr.setCell (S := fun k => k = b) (Fr.setCell (S := fun k => k = b) (Fr.refl _ _).drew (p := ⟨b, 0, none⟩) (.inl rfl) _) (p := ⟨b, 1, none⟩) (.inl rfl) _
  have hend : OnceAt (((w2.drew).setCell ⟨b, 0, none⟩ (.int .u32 1)).setCell ⟨b, 1, none⟩ (.int .i32 0)) b 1 := ⟨q0, q1, by simp [g0], by simp [g1]⟩
  have hT3 := (unhide HF).1.fr hF3 (fun e => hbt e.symm)
  have hFF : Fr (fun k => k = b ∨ k = t) w (((w2.drew).setCell ⟨b, 0, none⟩ (.int .u32 1)).setCell ⟨b, 1, none⟩ (.int .i32 0)) :=
    (((unhide HO).2.2.mono (T := fun k => k = b ∨ k = t) (fun _ _ h => .inl h)).trans ((unhide HF).2.1.mono (T := fun k => k = b ∨ k = t) (fun _ _ h => .inr h)) (fun _ _ h => h)).trans (hF3.mono (T := fun k => k = b ∨ k = t) (fun _ _ h => .inl h)) (fun _ _ h => h)
  have hsz : (((w2.drew).setCell ⟨b, 0, none⟩ (.int .u32 1)).setCell ⟨b, 1, none⟩ (.int .i32 0)).heap.size = w.heap.size := by simpa [World.setCell] using (unhide HF).2.2
  generalize (((w2.drew).setCell ⟨b, 0, none⟩ (.int .u32 1)).setCell ⟨b, 1, none⟩ (.int .i32 0)) = w3 at *
  simp only [Leaves, settle, results, Tryz.results147]
  simp
  exact ⟨hend, hT3, hFF, hsz⟩
theorem do_first (b t : Nat) (hbt : b ≠ t) (w : World) (hO : OnceAt w b 0) (hT : TabAt w t (fun _ => 0)) :
    Calls Tryz.prog 132 #[.pointer (some ⟨b, 0, none⟩), .func (.func 133) #[.pointer (some ⟨t, 0, none⟩)] #[]] w fun e w' => e = .returned (.tuple #[]) ∧
      OnceAt w' b 1 ∧ TabAt w' t Tb ∧ Fr (fun k => k = b ∨ k = t) w w' ∧ w'.heap.size = w.heap.size := by
  have hnot : ∀ (x : Bool) (w : World), (Op.unary .not (.bool x)).run Tryz.prog w = .ok (.bool (!x)) w := fun _ _ => rfl
  have HO := hide (And.intro hO hT)
  clear hO hT
  go_enter Tryz.func132, Tryz.ntmps132
  go_wp2_with fail
  refine (load_c ⟨b, 0, none⟩ 0 _ (unhide HO).1.c0).mono ?_
  rintro e w' ⟨rfl, rfl⟩
  rw [show ((0 : Int) != 0) = false from rfl]
  go_wp2_with fail
  refine (slow_any b t hbt _ (unhide HO).1 (unhide HO).2).mono ?_
  rintro e w2 ⟨rfl, h1, h2, h3, h4⟩
  have HE := hide (And.intro h1 (And.intro h2 (And.intro h3 h4)))
  clear h1 h2 h3 h4
  go_wp2_with fail
  go_end0
  exact ⟨rfl, unhide HE⟩
theorem do_done (b : Nat) (fv : Value) (w : World) (hO : OnceAt w b 1) :
    Calls Tryz.prog 132 #[.pointer (some ⟨b, 0, none⟩), fv] w fun e w' => e = .returned (.tuple #[]) ∧ w' = w := by
  have hnot : ∀ (x : Bool) (w : World), (Op.unary .not (.bool x)).run Tryz.prog w = .ok (.bool (!x)) w := fun _ _ => rfl
  have HO := hide hO
  clear hO
  go_enter Tryz.func132, Tryz.ntmps132
  go_wp2_with fail
  refine (load_c ⟨b, 0, none⟩ 1 _ (unhide HO).c0).mono ?_
  rintro e w' ⟨rfl, rfl⟩
  rw [show ((1 : Int) != 0) = true from rfl]
  go_wp2_with fail
  go_end0
  exact ⟨rfl, rfl⟩
end Go.Proofs.YtmmaddlphclpnaaGreatDoor
