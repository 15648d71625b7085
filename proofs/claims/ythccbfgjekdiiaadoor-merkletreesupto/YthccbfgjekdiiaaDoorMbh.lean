import Derived.Test.YthccbfgjekdiiaaDoorMbg
namespace Go.Proofs.YthccbfgjekdiiaaDoor
open Go.RowKit

/-- The calls of keep's last statement, behind the root. -/
theorem keep_rec (wi : Nat) (hw1 : 1 ≤ wi) (hw32 : wi ≤ 32) (base tb n N h : Nat) (hbase : 6 ≤ base) (hh : h < N) (IH : KeepSays wi base tb n N (h + 1)) (w : World) (wb cp : Nat) (vs : List Value) (rs : List (List Nat)) (r : List Nat) (g c' : Nat) (row : List Nat) (Q RW J1 J2 : Nat) (W5 : World)
    (hl : rs.length = N) (hg : GS w) (hr : r.length = wi) (hT5 : TrAt W5 base tb wi n (some ⟨wb, 0, none⟩) cp (vs.set h (.slice (some ⟨g, 0, none⟩) RW c')) (rs.set h (row ++ r))) (hF5 : Fr (TOwn tb (some ⟨wb, 0, none⟩) vs) w W5)
    (hOw : ∀ k, TOwn tb (some ⟨wb, 0, none⟩) (vs.set h (.slice (some ⟨g, 0, none⟩) RW c')) k → TOwn tb (some ⟨wb, 0, none⟩) vs k ∨ w.heap.size ≤ k) (hO5 : Ow W5 base (some ⟨g, 0, none⟩) c' (row ++ r))
    (hdrop : rs.drop h = row :: rs.drop (h + 1)) (hdiv : RW / wi = Q) (hRWl : (row ++ r).length = RW) (hRQ : RW = Q * wi) (hQ2 : 2 ≤ Q) (hp : Q % 2 = 0) (hJ1 : (Q - 2) * wi = J1) (hJ2 : (Q - 1) * wi = J2)
    (hT : TrAt w base tb wi n (some ⟨wb, 0, none⟩) cp vs rs) (hrs : ∀ (j : Nat) row, h ≤ j → rs[j]? = some row → (∃ q, row.length = q * wi) ∧ row.length ≤ 1000000000000)
    (e0 : W5.cell? ⟨tb, 0, none⟩ = some (.int .i64 wi)) (e2 : W5.cell? ⟨tb, 2, none⟩ = some (.slice (some ⟨wb, 0, none⟩) N cp)) (eh : W5.cell? ⟨wb, h, none⟩ = some (.slice (some ⟨g, 0, none⟩) RW c')) (hcap5 : RW ≤ c') (hcb : RW < 4611686018427387904) (hQb : Q ≤ 2000000000000) :
    (∀ w', Fr (fun _ => False) W5 w' → Calls Tryd.prog 80 #[.pointer (some ⟨tb, 0, none⟩), .int .i64 h, .int .i64 ((Q : Int) - 2)] w' fun e w'' => e = .returned (.slice (some ⟨g, J1, none⟩) wi (c' - J1)) ∧ Fr (fun _ => False) w' w'') ∧
    (∀ w', Fr (fun _ => False) W5 w' → Calls Tryd.prog 80 #[.pointer (some ⟨tb, 0, none⟩), .int .i64 h, .int .i64 ((Q : Int) - 1)] w' fun e w'' => e = .returned (.slice (some ⟨g, J2, none⟩) wi (c' - J2)) ∧ Fr (fun _ => False) w' w'') ∧
    (∀ w', Fr (fun _ => False) W5 w' → Calls Tryd.prog 62 #[.int .i64 wi, .slice (some ⟨g, J1, none⟩) wi (c' - J1), .slice (some ⟨g, J2, none⟩) wi (c' - J2)] w' fun e w'' => ∃ zo, e = .returned (.slice zo wi wi) ∧ OB w' w'' zo wi (nd wi (rwt wi (row ++ r) (Q - 2)) (rwt wi (row ++ r) (Q - 1)))) ∧
    (∀ w' wC zo, Fr (fun _ => False) W5 w' → OB w' wC zo wi (nd wi (rwt wi (row ++ r) (Q - 2)) (rwt wi (row ++ r) (Q - 1))) → Calls Tryd.prog 51 #[.pointer (some ⟨tb, 0, none⟩), .int .i64 ((h : Int) + 1), .slice zo wi wi] wC fun e w' => e = .returned (.tuple #[]) ∧ w'.cell? ⟨tb, 0, none⟩ = some (.int .i64 wi) ∧
      ∃ xo' cp' vs', TrAt w' base tb wi n xo' cp' vs' (rs.take h ++ kpb wi (rs.drop h) r) ∧ Fr (TOwn tb (some ⟨wb, 0, none⟩) vs) w w' ∧ ∀ k, TOwn tb xo' vs' k → TOwn tb (some ⟨wb, 0, none⟩) vs k ∨ w.heap.size ≤ k) := by
  have hm1 : J1 + wi = J2 := by rw [← hJ1, ← hJ2, ← Nat.succ_mul]; congr 1; omega
  have hm2 : J2 + wi = RW := by rw [hRQ, ← hJ2, ← Nat.succ_mul]; congr 1; omega
  have hi2 : (Q : Int) - 2 = ((Q - 2 : Nat) : Int) := by omega
  have hi1 : (Q : Int) - 1 = ((Q - 1 : Nat) : Int) := by omega
  have hbyt : ∀ v ∈ row ++ r, v < 256 := hT5.byt _ (List.mem_of_getElem? (List.getElem?_set_self (by omega)))
  have hnl : ∀ a b, (nd (wi : Int) a b).length = wi := fun a b => by
    have := sm_len (i := (wi : Int)) (m := 1 :: (a ++ b)) ⟨by omega, by omega⟩
    simpa [nd] using this
  have hgs : GS W5 := hg.fr hF5 (fun k hk hO => by have := (hT.lt k hO).1; omega)
  have lt0 := lt_of_cell e0
  have lt2 := lt_of_cell e2
  have lth := lt_of_cell eh
  refine ⟨fun w' hf => ?_, fun w' hf => ?_, fun w' hf => ?_, fun wA wC zo hfA oC => ?_⟩
  · rw [hi2]
    refine (kept_any tb wb cp g h (Q - 2) wi N RW c' J1 w' ((hf.cell lt0 (fun h => h)).trans e0) ((hf.cell lt2 (fun h => h)).trans e2) ((hf.cell lth (fun h => h)).trans eh) hh hJ1 (by omega) hcap5 hcb (by omega) hw1).mono ?_
    rintro e w'' ⟨rfl, q, rfl⟩
    exact ⟨rfl, (Fr.refl _ _).drewN q⟩
  · rw [hi1]
    refine (kept_any tb wb cp g h (Q - 1) wi N RW c' J2 w' ((hf.cell lt0 (fun h => h)).trans e0) ((hf.cell lt2 (fun h => h)).trans e2) ((hf.cell lth (fun h => h)).trans eh) hh hJ2 (by omega) hcap5 hcb (by omega) hw1).mono ?_
    rintro e w'' ⟨rfl, q, rfl⟩
    exact ⟨rfl, (Fr.refl _ _).drewN q⟩
  · have p1 := (hO5.part J1 wi (by omega) hbyt).fr0 hf
    have p2 := (hO5.part J2 wi (by omega) hbyt).fr0 hf
    refine (node_any (wi : Int) _ _ _ _ w' (hgs.fr0 hf) p1 p2 (by rw [List.length_take]; omega) (by rw [List.length_take]; omega)).mono ?_
    rintro e w'' ⟨zo, rfl, hO⟩
    rw [hnl] at hO
    refine ⟨zo, by rw [hnl], ?_⟩
    rw [rwt, rwt, hJ1, hJ2]
    exact hO
  · have hnlen := hnl (rwt wi (row ++ r) (Q - 2)) (rwt wi (row ++ r) (Q - 1))
    have hFC : Fr (fun _ => False) W5 wC := hfA.trans oC.fr (fun _ _ h => h)
    have hTC : TrAt wC base tb wi n (some ⟨wb, 0, none⟩) cp (vs.set h (.slice (some ⟨g, 0, none⟩) RW c')) (rs.set h (row ++ r)) := hT5.fr hFC (fun _ _ h => h)
    have := IH wC _ cp _ (rs.set h (row ++ r)) zo wi (nd wi (rwt wi (row ++ r) (Q - 2)) (rwt wi (row ++ r) (Q - 1))) (by rw [List.length_set]; exact hl) hTC (hgs.fr0 hFC) (fun w' hf => by
        have hs := oC.src
        rw [hnlen] at hs
        refine hs.fr hf (fun g' o' m' c'' e hO => ?_)
        have h1 := oC.own.lt g' (by rw [hnlen, e]; rfl)
        have h2 := (hT5.lt g' hO).2
        have h3 := hfA.size
        omega) hnlen (nd_lt _ _ _) (fun j q hj hq => by
        rw [List.getElem?_set_ne (by omega)] at hq
        exact hrs j q (by omega) hq)
    have hi : ((h + 1 : Nat) : Int) = (h : Int) + 1 := by omega
    rw [hi] at this
    refine this.mono ?_
    rintro e w' ⟨rfl, xo', cp', vs', hT', hF', hO'⟩
    refine ⟨rfl, hT'.cells.1, xo', cp', vs', ?_, ?_, fun k hk => ?_⟩
    · have hset : rs.take h ++ kpb wi (rs.drop h) r = (rs.set h (row ++ r)).take (h + 1) ++ kpb wi ((rs.set h (row ++ r)).drop (h + 1)) (nd wi (rwt wi (row ++ r) (Q - 2)) (rwt wi (row ++ r) (Q - 1))) := by
        rw [hdrop, kpb, if_pos (by rw [hRWl, hdiv]; exact hp), hRWl, hdiv, List.set_eq_take_append_cons_drop, if_pos (by omega)]
        have ht : (rs.take h).length = h := by rw [List.length_take]; omega
        rw [List.take_append, List.drop_append, ht, List.take_of_length_le (l := rs.take h) (by omega), List.drop_of_length_le (l := rs.take h) (by omega), show h + 1 - h = 1 by omega]
        simp
      rw [hset]; exact hT'
    · exact (hF5.trans hFC (fun _ _ h => h.elim)).trans hF' (fun k hk hO => (hOw k hO).elim id (fun h => absurd hk (by omega)))
    · rcases hO' k hk with h1 | h1
      · exact hOw k h1
      · exact .inr (Nat.le_trans (Nat.le_trans hF5.size hFC.size) h1)
set_option maxRecDepth 100000 in
set_option maxHeartbeats 1000000 in
/-- Tree.keep at a row that is there. -/
theorem keep_odd (wi : Nat) (hw1 : 1 ≤ wi) (hw32 : wi ≤ 32) (base tb n N h : Nat) (hh : h < N) (w : World) (xo : Option Addr) (cp : Nat) (vs : List Value) (rs : List (List Nat)) (yo : Option Addr) (yc : Nat) (r : List Nat) (hl : rs.length = N) (hT : TrAt w base tb wi n xo cp vs rs)
    (hx : ∀ w', Fr (TOwn tb xo vs) w w' → Src w' (.slice yo wi yc) r) (hr : r.length = wi) (hb : ∀ v ∈ r, v < 256) (hrs : ∀ (j : Nat) row, h ≤ j → rs[j]? = some row → (∃ q, row.length = q * wi) ∧ row.length ≤ 1000000000000) (hodd : ∀ row, rs[h]? = some row → ¬ (row.length / wi + 1) % 2 = 0) :
    Calls Tryd.prog 51 #[.pointer (some ⟨tb, 0, none⟩), .int .i64 h, .slice yo wi yc] w fun e w' => e = .returned (.tuple #[]) ∧ ∃ xo' cp' vs', TrAt w' base tb wi n xo' cp' vs' (rs.take h ++ kpb wi (rs.drop h) r) ∧ Fr (TOwn tb xo vs) w w' ∧ ∀ k, TOwn tb xo' vs' k → TOwn tb xo vs k ∨ w.heap.size ≤ k := by
  obtain ⟨wb, ao, R, c, q, row, g, c', w4, W5, rfl, hrw, hrl, hq, hR, hv, hrun4, hW5, ⟨z4, hz4'⟩, hz4, d4, d2, dh, e0, e2, eh, hO5, hT5, hF5, hOw⟩ := keep_put wi hw1 hw32 base tb n N h hh w xo cp vs rs yo yc r hl hT hx hr hb hrs
  have hoq := hodd row hrw
  rw [hrl, hq, Nat.mul_div_cancel _ hw1] at hoq
  clear hodd
  obtain ⟨RW, hRW⟩ : ∃ RW, R + wi = RW := ⟨_, rfl⟩
  rw [hRW] at hrun4 hW5 eh hT5 hOw
  have hRWl : (row ++ r).length = RW := by rw [List.length_append, hrl, hr, hRW]
  obtain ⟨Q, hQ⟩ : ∃ Q, q + 1 = Q := ⟨_, rfl⟩
  have hRQ : RW = Q * wi := by rw [← hRW, hq, ← hQ, Nat.add_mul, Nat.one_mul]
  have hdiv : RW / wi = Q := by rw [hRQ]; exact Nat.mul_div_cancel _ hw1
  have hdrop : rs.drop h = row :: rs.drop (h + 1) := by
    obtain ⟨hlt, e⟩ := List.getElem?_eq_some_iff.1 hrw
    rw [← e]; exact List.drop_eq_getElem_cons hlt
  have hcap5 : RW ≤ c' := by rw [← hRWl]; exact hO5.cap
  have hQb : Q ≤ 2000000000000 := by
    have : Q * 1 ≤ Q * wi := Nat.mul_le_mul_left _ hw1
    omega
  have hnhi : ¬ (h : Int) = (N : Int) := by omega
  have hlti : (h : Int) < (N : Int) := by omega
  have hq0 : ¬ wi = 0 := by omega
  have hq1 : Int.tdiv (RW : Int) (wi : Int) = (Q : Int) := by
    rw [Int.tdiv_eq_ediv_of_nonneg (by omega), ← hdiv]; rfl
  have hqw : IntKind.i64.wrap (Q : Int) = (Q : Int) := by rw [IntKind.wrap_i64]; omega
  have HG := hide (And.intro hT (And.intro hT5 (And.intro hF5 (And.intro hOw (And.intro hO5 (And.intro hdrop (And.intro hdiv hRWl)))))))
  have HR4 := hide hrun4
  clear hT hT5 hF5 hOw hO5 hdrop hrun4 hx hb hrs hrw hv hq hRQ hRW hRWl hdiv hrl
  have hp : ¬ Q % 2 = 0 := by rw [← hQ]; exact hoq
  clear hoq
  have hq2 : Int.tmod (Q : Int) 2 = 1 := by rw [Int.tmod_eq_emod_of_nonneg (by omega)]; omega
  go_enter Tryd.func51, Tryd.ntmps51
  go_wp2_with fail
  go_region_law (refine step_app rfl (.tmp 34) (.tmp 35) 25 25 rfl _ _ _ (by simp [Act.eval]) (by simp [Act.eval]) (unhide HR4) ?_)
  all_goals
    go_wp2_with fail
    go_quiet (fail)
    go_wp2_with fail
  all_goals
    go_end0
    obtain ⟨hT, hT5, hF5, hOw, hO5, hdrop, hdiv, hRWl⟩ := unhide HG
    have hset : rs.take h ++ kpb wi (rs.drop h) r = rs.set h (row ++ r) := by
      rw [hdrop, kpb, if_neg (by rw [hRWl, hdiv]; exact hp), List.set_eq_take_append_cons_drop, if_pos (by omega)]
    rw [hset]
    exact ⟨rfl, _, _, _, hT5.of_blocks (fun _ _ => rfl), hF5.drewN _, hOw⟩
end Go.Proofs.YthccbfgjekdiiaaDoor
