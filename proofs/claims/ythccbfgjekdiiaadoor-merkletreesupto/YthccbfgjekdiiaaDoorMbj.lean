import Derived.Test.YthccbfgjekdiiaaDoorMbh
namespace Go.Proofs.YthccbfgjekdiiaaDoor
open Go.RowKit

set_option maxRecDepth 100000 in
set_option maxHeartbeats 1000000 in
/-- Tree.keep at a row that is there and gets a pair whole. -/
theorem keep_even (wi : Nat) (hw1 : 1 ≤ wi) (hw32 : wi ≤ 32) (base tb n N h : Nat) (hbase : 6 ≤ base) (hN : N < 1000) (hh : h < N) (IH : KeepSays wi base tb n N (h + 1)) (w : World) (xo : Option Addr) (cp : Nat) (vs : List Value) (rs : List (List Nat)) (yo : Option Addr) (yc : Nat) (r : List Nat) (hl : rs.length = N) (hgs : GS w) (hT : TrAt w base tb wi n xo cp vs rs)
    (hx : ∀ w', Fr (TOwn tb xo vs) w w' → Src w' (.slice yo wi yc) r) (hr : r.length = wi) (hb : ∀ v ∈ r, v < 256) (hrs : ∀ (j : Nat) row, h ≤ j → rs[j]? = some row → (∃ q, row.length = q * wi) ∧ row.length ≤ 1000000000000) (heven : ∀ row, rs[h]? = some row → (row.length / wi + 1) % 2 = 0) :
    Calls Tryd.prog 51 #[.pointer (some ⟨tb, 0, none⟩), .int .i64 h, .slice yo wi yc] w fun e w' => e = .returned (.tuple #[]) ∧ ∃ xo' cp' vs', TrAt w' base tb wi n xo' cp' vs' (rs.take h ++ kpb wi (rs.drop h) r) ∧ Fr (TOwn tb xo vs) w w' ∧ ∀ k, TOwn tb xo' vs' k → TOwn tb xo vs k ∨ w.heap.size ≤ k := by
  obtain ⟨wb, ao, R, c, q, row, g, c', w4, W5, rfl, hrw, hrl, hq, hR, hv, hrun4, hW5, ⟨z4, hz4'⟩, hz4, d4, d2, dh, e0, e2, eh, hO5, hT5, hF5, hOw⟩ := keep_put wi hw1 hw32 base tb n N h hh w xo cp vs rs yo yc r hl hT hx hr hb hrs
  have hoq := heven row hrw
  rw [hrl, hq, Nat.mul_div_cancel _ hw1] at hoq
  clear heven
  obtain ⟨RW, hRW⟩ : ∃ RW, R + wi = RW := ⟨_, rfl⟩
  rw [hRW] at hrun4 hW5 eh hT5 hOw
  have hRWl : (row ++ r).length = RW := by rw [List.length_append, hrl, hr, hRW]
  obtain ⟨Q, hQ⟩ : ∃ Q, q + 1 = Q := ⟨_, rfl⟩
  have hRQ : RW = Q * wi := by rw [← hRW, hq, ← hQ, Nat.add_mul, Nat.one_mul]
  have hdiv : RW / wi = Q := by rw [hRQ]; exact Nat.mul_div_cancel _ hw1
  have hdrop : rs.drop h = row :: rs.drop (h + 1) := by
    obtain ⟨hlt, e⟩ := List.getElem?_eq_some_iff.1 hrw
    rw [← e]; exact List.drop_eq_getElem_cons hlt
  have hcap5 : RW ≤ c' := by rw [← hRWl]; exact hO5.cap
  have hQb : Q ≤ 2000000000000 := by
    have : Q * 1 ≤ Q * wi := Nat.mul_le_mul_left _ hw1
    omega
  have hnhi : ¬ (h : Int) = (N : Int) := by omega
  have hlti : (h : Int) < (N : Int) := by omega
  have hq0 : ¬ wi = 0 := by omega
  have hq1 : Int.tdiv (RW : Int) (wi : Int) = (Q : Int) := by
    rw [Int.tdiv_eq_ediv_of_nonneg (by omega), ← hdiv]; rfl
  have hqw : IntKind.i64.wrap (Q : Int) = (Q : Int) := by rw [IntKind.wrap_i64]; omega
  have hp : Q % 2 = 0 := by rw [← hQ]; exact hoq
  have hQ2 : 2 ≤ Q := by omega
  have HK := hide (keep_rec wi hw1 hw32 base tb n N h hbase hh IH w wb cp vs rs r g c' row Q RW _ _ W5 hl hgs hr hT5 hF5 hOw hO5 hdrop hdiv hRWl hRQ hQ2 hp rfl rfl hT hrs e0 e2 eh hcap5 (by omega) hQb)
  have HR4 := hide hrun4
  have hq2 : Int.tmod (Q : Int) 2 = 0 := by rw [Int.tmod_eq_emod_of_nonneg (by omega)]; omega
  have hi2 : IntKind.i64.wrap ((Q : Int) - 2) = (Q : Int) - 2 := by rw [IntKind.wrap_i64]; omega
  have hi1 : IntKind.i64.wrap ((Q : Int) - 1) = (Q : Int) - 1 := by rw [IntKind.wrap_i64]; omega
  have hih : IntKind.i64.wrap ((h : Int) + 1) = (h : Int) + 1 := by rw [IntKind.wrap_i64]; omega
  generalize (Q - 2) * wi = J1 at *
  generalize (Q - 1) * wi = J2 at *
  generalize nd wi (rwt wi (row ++ r) (Q - 2)) (rwt wi (row ++ r) (Q - 1)) = ND at *
  have lt0 := lt_of_cell e0
  clear hT hT5 hF5 hOw hO5 hdrop hrun4 hx hb hrs hrw hv hq hRQ hRW hRWl hdiv hrl hp hoq hQ2 IH hgs
  go_enter Tryd.func51, Tryd.ntmps51
  go_wp2_with fail
  go_region_law (refine step_app rfl (.tmp 34) (.tmp 35) 25 25 rfl _ _ _ (by simp [Act.eval]) (by simp [Act.eval]) (unhide HR4) ?_)
  all_goals
    go_wp2_with fail
    go_quiet (fail)
    go_wp2_with fail
  all_goals
    have T1 : True := trivial
    go_region_held3 (fun w' => w'.cell? ⟨tb, 0, none⟩ = some (.int .i64 wi)) (first | assumption | (simp only [World.cell?_drew, World.cell?_drewN]; assumption) | exact (fC.cell (p := ⟨tb, 0, none⟩) lt0 (fun h => h)).trans e0 | exact (fB.cell (p := ⟨tb, 0, none⟩) lt0 (fun h => h)).trans e0 | exact (fA.cell (p := ⟨tb, 0, none⟩) lt0 (fun h => h)).trans e0)
      (first
        | (go_at_call 80; clear T1; refine ((unhide HK).1 _ (by first | exact (Fr.refl _ _).drew | exact ((Fr.refl _ _).drewN _).drew | exact (Fr.refl _ _).drewN _ | exact ((Fr.refl _ _).drew).drewN _)).mono ?_; rintro e wA ⟨rfl, hA⟩; have fA : Fr (fun _ => False) W5 wA := ((Fr.refl _ _).drewN _).trans hA (fun _ _ h => h))
        | (go_at_call 80; refine ((unhide HK).2.1 _ fA).mono ?_; rintro e wB ⟨rfl, hB⟩; have fB : Fr (fun _ => False) W5 wB := fA.trans hB (fun _ _ h => h))
        | (go_at_call 62; refine ((unhide HK).2.2.1 _ fB).mono ?_; rintro e wC ⟨zo, rfl, oC⟩; have fC : Fr (fun _ => False) W5 wC := fB.trans oC.fr (fun _ _ h => h))
        | (go_at_call 51; refine ((unhide HK).2.2.2 _ _ _ fB oC).mono ?_; rintro e wD ⟨rfl, eD, hD⟩))
    have HD := hide hD
    clear hD
    go_wp2_with fail
    go_end0
    exact ⟨rfl, unhide HD⟩
/-- Tree.keep. -/
theorem keep_any (wi : Nat) (hw1 : 1 ≤ wi) (hw32 : wi ≤ 32) (base tb n N : Nat) (hbase : 6 ≤ base) (hN : N < 1000) (d : Nat) : ∀ h, h + d = N → KeepSays wi base tb n N h := by
  induction d with
  | zero =>
    intro h hh
    have e : h = N := by omega
    subst e
    exact keep_end wi hw1 hw32 base tb n h hN
  | succ d ih =>
    intro h hh w xo cp vs rs yo yc r hl hT hg hx hr hb hrs
    have hhN : h < N := by omega
    by_cases hp : (rs[h]'(by omega)).length / wi % 2 = 1
    · exact keep_even wi hw1 hw32 base tb n N h hbase hN hhN (ih (h + 1) (by omega)) w xo cp vs rs yo yc r hl hg hT hx hr hb hrs (fun row hrow => by
        rw [List.getElem?_eq_getElem (by omega)] at hrow
        cases hrow
        omega)
    · exact keep_odd wi hw1 hw32 base tb n N h hhN w xo cp vs rs yo yc r hl hT hx hr hb hrs (fun row hrow => by
        rw [List.getElem?_eq_getElem (by omega)] at hrow
        cases hrow
        omega)
end Go.Proofs.YthccbfgjekdiiaaDoor
