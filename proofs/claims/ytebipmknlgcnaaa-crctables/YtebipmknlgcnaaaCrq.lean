import Derived.Test.YtebipmknlgcnaaaCrn
import Derived.Test.YtebipmknlgcnaaaCrp
namespace Go.Proofs.Ytebipmknlgcnaaa
open Go.RowKit

theorem Try.infoU32 : (Try.prog.info? 25).map (fun i => (i.zero, i.size, i.bytes)) = some (some (.int .u32 0), 1, 4) := by kernel_rfl
theorem add_at (g j : Nat) : (⟨g, 0, none⟩ : Addr).add j = ⟨g, j, none⟩ := by unfold Addr.add; split <;> simp_all
theorem app_ones (w : World) (b : Nat) (h : TabAt w b (fun _ => 1)) : ∃ p c W', (Builtin.append_ #[22, 22] 22 #[.slice (some ⟨b, 0, none⟩) 256 256, .slice (some ⟨w.heap.size, 0, none⟩) 3 3]).run Try.prog (w.alloc (.cells #[.int .u32 1, .int .u32 1, .int .u32 1] 25)) = .ok (.slice (some p) 259 c) W' ∧ Fr (fun _ => False) w W' := by
  obtain ⟨i0, hi, hz0, hz1, hz2⟩ := info_parts Try.infoU32
  have hF : Fr (fun _ => False) w (w.alloc (.cells #[.int .u32 1, .int .u32 1, .int .u32 1] 25)) := (Fr.refl _ _).alloc _
  have h1 := h.fr hF (fun h => h)
  have hr := run_append_grow (P := Try.prog) (w.alloc (.cells #[.int .u32 1, .int .u32 1, .int .u32 1] 25)) 22 22 25 i0 (.int .u32 0) Try.underlying22 hi hz0 ⟨b, 0, none⟩ 256 256 (List.replicate 256 (.int .u32 1)) (by rw [hz1, List.length_replicate]) (fun j v hv => by
      rw [add_at]
      have hj : j < 256 := by
        have := (List.getElem?_eq_some_iff.1 hv).1
        rwa [List.length_replicate] at this
      rw [List.getElem?_replicate, if_pos hj] at hv
      cases hv
      exact (h1 j hj).1) ⟨w.heap.size, 0, none⟩ 3 3 [.int .u32 1, .int .u32 1, .int .u32 1] (by rw [hz1]; rfl) (fun j v hv => by
      rw [add_at, World.cell?_alloc_at _ _ _ _ rfl, ← hv]
      simp) (by decide) (by decide) (by rw [hz2]; decide)
  exact ⟨_, _, _, hr, (hF.drew).alloc _⟩
theorem TabAt.set {w : World} {b : Nat} {f : Nat → Nat} (h : TabAt w b f) (k v : Nat) : TabAt (w.setCell ⟨b, k, none⟩ (.int .u32 (v : Int))) b (fun j => if j = k then v else f j) := h.put k v
set_option maxRecDepth 100000 in
theorem ctables_any (w : World) : Calls Try.prog 4 #[] w fun e w' => e = .returned (.bool true) ∧ Fr (fun _ => False) w w' := by
  go_enter Try.func4, Try.ntmps4
  go_wp2_with fail
  refine (table_any w).mono ?_
  rintro e w1 ⟨rfl, hT1, hF1, hs1⟩
  have H1 := hide (And.intro hT1 (And.intro hF1 hs1))
  clear hT1 hF1 hs1
  go_wp2_with fail
  refine (table_any w1).mono ?_
  rintro e w2 ⟨rfl, hT2, hF2, hs2⟩
  rw [(unhide H1).2.2] at hT2 ⊢
  have hT1 := (unhide H1).1.fr hF2 (fun h => h)
  have H2 := hide (And.intro hT1 (And.intro hT2 ((unhide H1).2.1.trans hF2 (fun _ _ h => h))))
  have hz2 : w2.heap.size = w.heap.size + 1 + 1 := by rw [hs2, (unhide H1).2.2]
  clear hT1 hT2 hF2 hs2 H1
  have Z2 := hide hz2
  clear hz2
  go_wp2_with fail
  go_loopw [3] (fun i wr => ∃ k : Nat, k ≤ 256 ∧ i = .int .i64 k ∧ TabAt wr w.heap.size (fun j => if j < k then 1 else Tb j) ∧ Fr (fun k => k = w.heap.size) w2 wr) (fun i _ => 256 - (intOf i).toNat)
  case atStart => exact ⟨0, Nat.zero_le _, rfl, (unhide H2).1.congr (fun j _ => by simp), Fr.refl _ _⟩
  case round =>
    obtain ⟨k, hk, rfl, hT, hF⟩ := hrel
    rename World => wr
    by_cases hlt : k < 256
    · have c0 := (hT k hlt).1
      have z0 := (hT k hlt).2
      have hst := (hT.set k 1).congr (f' := fun j => if j < k + 1 then 1 else Tb j) (fun j _ => by
        by_cases e : j = k
        · subst e; simp
        · simp only [e, if_false]
          by_cases h : j < k
          · simp [h, show j < k + 1 by omega]
          · simp [h, show ¬ j < k + 1 by omega])
      have hFs : Fr (fun k => k = w.heap.size) w2 (wr.setCell ⟨w.heap.size, k, none⟩ (.int .u32 (1 : Nat))) := Fr.setCell (S := fun k => k = w.heap.size) hF (p := ⟨w.heap.size, k, none⟩) (.inl rfl) _
      have HS := hide (And.intro hst hFs)
      clear hT hF hst hFs
      go_wp2_with fail
      exact ⟨⟨k + 1, by omega, by go_num, (unhide HS).1, (unhide HS).2⟩, by simp [intOf]; omega⟩
    · have hT' : TabAt wr w.heap.size (fun _ => 1) := hT.congr (fun j hj => by simp [show j < k by omega])
      obtain ⟨p, c, w4, hr4, hF4⟩ := app_ones wr w.heap.size hT'
      have hT2 := ((unhide H2).2.1.fr hF (by omega)).fr hF4 (fun h => h)
      have hFw : Fr (fun _ => False) w w4 := ((unhide H2).2.2.trans (hF.mono (T := fun k => w.heap.size ≤ k) (fun i _ h => by omega)) (fun i hi h => by omega)).trans hF4 (fun _ _ h => h)
      have HR := hide hr4
      have H4 := hide (And.intro hT2 hFw)
      clear hT hF hT' hr4 hF4 hT2 hFw H2
      go_wp2_with (at_builtin; refine wpList_app rfl (.tmp 23) (.tmp 24) 22 22 rfl _ _ _ rfl rfl (unhide HR) ?_)
      refine (table_any w4).mono ?_
      rintro e w5 ⟨rfl, hT5, hF5, hs5⟩
      have hT25 := (unhide H4).1.fr hF5 (fun h => h)
      have H5 := hide (And.intro hT25 (And.intro hT5 ((unhide H4).2.trans hF5 (fun _ _ h => h))))
      clear hT25 hT5 hF5 hs5 H4 HR
      go_wp2_with fail
      go_loopw [5] (fun i wq => ∃ k n : Nat, k ≤ 256 ∧ i = .int .i64 k ∧ wq = w5.drewN n) (fun i _ => 256 - (intOf i).toNat)
      case atStart => exact ⟨0, 0, Nat.zero_le _, rfl, rfl⟩
      case round =>
        obtain ⟨m, n, hm, rfl, rfl⟩ := hrel
        by_cases hlm : m < 256
        · have cu : (w5.drewN n).cell? ⟨w.heap.size + 1, m, none⟩ = some (.int .u32 (Tb m : Nat)) := by rw [World.cell?_drewN]; exact ((unhide H5).1 m hlm).1
          have cv : (w5.drewN n).cell? ⟨w4.heap.size, m, none⟩ = some (.int .u32 (Tb m : Nat)) := by rw [World.cell?_drewN]; exact ((unhide H5).2.1 m hlm).1
          have i1 : (m : Int) < 256 := by omega
          generalize hz : Tb m = z at *
          have HZ := hide hz
          clear hz
          have hent : ∀ w0 : World, Calls Try.prog 14 #[.int .i64 m] w0 fun e w' => e = .returned (.int .u32 (z : Nat)) ∧ w' = w0 := fun w0 => by
            have := entry_any m w0 hlm
            rw [unhide HZ] at this
            exact this
          go_wp2_with fail
          go_region_held3 (fun w' => w'.cell? ⟨w.heap.size + 1, m, none⟩ = some (.int .u32 z) ∧ w'.cell? ⟨w4.heap.size, m, none⟩ = some (.int .u32 z)) (first | exact ⟨cu, cv⟩ | assumption | (refine ⟨?_, ?_⟩ <;> (simp only [World.cell?_drew, World.cell?_drewN] at *; assumption))) (first | (go_at_call 14; refine (hent _).mono ?_; rintro e w' ⟨rfl, rfl⟩))
          go_wp2_with fail
          exact ⟨⟨m + 1, n + 1, by omega, by go_num, by first | rfl | trivial⟩, by simp [intOf]; omega⟩
        · have e : m = 256 := by omega
          subst e
          go_wp2_with fail
          go_ret
          exact ⟨rfl, by have := (unhide H5).2.2; exact ⟨this.os, this.tape, this.output, this.size, this.block⟩⟩
end Go.Proofs.Ytebipmknlgcnaaa
