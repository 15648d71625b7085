import Derived.Test.YtiknjghcjaaenaaGreatDoorKOal
namespace Go.Proofs.YtiknjghcjaaenaaGreatDoor
open Go.RowKit Go.Shelf
theorem Fds.frS {w w' : World} {x : Value} {l : List F5} {S : Nat → Prop} (h : Fds w x l) (hf : Fr S w w') (hS : ∀ g o n c, x = .slice (some ⟨g, o, none⟩) n c → 0 < n → ¬ S g) : Fds w' x l := by
 rcases h with h | ⟨g, o, c, h1, h2⟩
 ·exact .inl h
 ·refine .inr ⟨g, o, c, h1, fun j hj => ?_⟩
  obtain ⟨c0, c1, c2, c3, c4⟩ := h2 j hj
  have hg : g < w.heap.size := lt_of_cell c0
  have hn := hS g o _ c h1 (by omega)
  exact ⟨(hf.cell (p := ⟨g, _, none⟩) hg hn).trans c0, (hf.cell (p := ⟨g, _, none⟩) hg hn).trans c1, (hf.cell (p := ⟨g, _, none⟩) hg hn).trans c2, (hf.cell (p := ⟨g, _, none⟩) hg hn).trans c3, (hf.cell (p := ⟨g, _, none⟩) hg hn).trans c4⟩
def keptF (l : List F5) : List F5 := l.filter fun f => decide (f.k ≠ 3)
set_option maxHeartbeats 4000000 in
set_option maxRecDepth 100000 in
theorem appendKept_any (ov x : Value) (a l : List F5) (base : Nat) (w : World) (ho : OwF w base ov a) (hb : base ≤ w.heap.size) (hx : Fds w x l) (hxb : ∀ g o n c, x = .slice (some ⟨g, o, none⟩) n c → 0 < n → g < base) (hl : a.length + l.length ≤ 1000) (hs : ∀ f ∈ l, FOk f) :
  Calls Tryz.prog 94 #[ov, x] w fun e w' => ∃ v, e = .returned v ∧ OwF w' base v (a ++ keptF l) ∧ Fr (fun k => base ≤ k) w w' := by
 obtain ⟨xo, xc, rfl⟩ := hx.form
 obtain ⟨oo0, oc0, rfl⟩ := own_formX ho
 have HX := hide (And.intro hx hxb)
 have HO := hide (And.intro ho hb)
 clear hx hxb ho hb
 go_enter Tryz.func94, Tryz.ntmps94
 go_wp2_with fail
 go_loopw [0, 9] (fun ov iv wr => ∃ j : Nat, j ≤ l.length ∧ iv = .int .i64 (j : Nat) ∧ OwF wr base ov (a ++ keptF (l.take j)) ∧ Fr (fun k => base ≤ k) w wr) (fun _ iv _ => l.length - (intOf iv).toNat)
 case atStart => exact ⟨0, Nat.zero_le _, rfl, by simpa [keptF] using (unhide HO).1, Fr.refl _ _⟩
 case round =>
  obtain ⟨j, hj, rfl, hO, hf⟩ := hrel
  by_cases hlt : j < l.length
  ·obtain ⟨g, o, rfl, c0, c1, c2, c3, c4⟩ := ((unhide HX).1.frS hf (fun g o n c e h0 => by have := (unhide HX).2 g o n c e h0; omega)).at_ j hlt
   have hfo := hs l[j] (List.getElem_mem hlt)
   have htk : l.take (j + 1) = l.take j ++ [l[j]] := List.take_succ_eq_append_getElem hlt
   generalize l[j] = f at c0 c1 c2 c3 c4 hfo htk
   have hlen : (a ++ keptF (l.take j)).length ≤ 1000 := by
    have h1 := List.length_filter_le (fun f : F5 => decide (f.k ≠ 3)) (l.take j)
    rw [List.length_take] at h1
    rw [List.length_append]
    unfold keptF
    omega
   obtain ⟨oo, oc, hov⟩ := own_formX hO
   subst hov
   have hi1 : (j : Int) < (l.length : Int) := by omega
   have hgl : g < wr.heap.size := lt_of_cell c0
   by_cases hk3 : f.k = 3
   ·have hkk : keptF (l.take (j + 1)) = keptF (l.take j) := by rw [htk]; simp [keptF, hk3]
    have b3 : ((f.k : Int) != 3) = false := by rw [hk3]; rfl
    have HR := hide (And.intro hO (And.intro hf hkk))
    clear hO hf htk hkk
    go_wp2_with fail
    refine ⟨⟨j + 1, by omega, by go_num, ?_, (unhide HR).2.1.trans ((box1 wr _).mono (fun _ _ h => h.elim)) (fun _ _ h => h)⟩, by simp [intOf]; omega⟩
    rw [(unhide HR).2.2]
    exact (unhide HR).1.fr (box1 wr _) (fun _ _ h => h)
   ·have hkk : a ++ keptF (l.take (j + 1)) = (a ++ keptF (l.take j)) ++ [f] := by rw [htk]; simp [keptF, hk3]
    have b3 : ((f.k : Int) != 3) = true := by rw [bne_iff_ne]; omega
    have HC := hide (fun W => ownCopy_any f W hfo.1 hfo.2)
    simp only [F5.val, F5.cs] at HC
    have HR := hide (And.intro hO (And.intro hf hkk))
    generalize a ++ keptF (l.take j) = A at hlen HR hO ⊢
    clear hO hf htk hkk
    go_wp2_with fail
    refine ((unhide HC) _).mono ?_
    rintro e w2 ⟨rfl, hf2⟩
    have hF2 := (unhide HR).2.1.trans (((box1 wr _).trans hf2 (fun _ _ h => h)).mono (fun _ _ h => h.elim)) (fun _ _ h => h)
    have hO2 := (unhide HR).1.fr ((box1 wr _).trans hf2 (fun _ _ h => h)) (fun _ _ h => h)
    obtain ⟨ao, cap, w3, hr3, ho3, hf3, hb3⟩ := app_fld w2 base (.slice oo A.length oc) A f hO2 (Nat.le_trans (unhide HO).2 hF2.size) (by omega)
    have HR3 := hide hr3
    have H3 := hide (And.intro ho3 (hF2.trans (hf3.mono (fun k _ hk => (hO2.lt k hk).1)) (fun _ _ h => h)))
    clear hf2 hF2 hO2 hr3 ho3 hf3 hb3
    go_wp2_with (at_builtin; refine wpList_app rfl _ _ 39 39 rfl _ _ _ rfl rfl (unhide HR3) ?_; clear HR3)
    refine ⟨⟨j + 1, by omega, by go_num, ?_, (unhide H3).2⟩, by simp [intOf]; omega⟩
    rw [(unhide HR).2.2]
    exact (unhide H3).1
  ·have hjl : j = l.length := by omega
   subst hjl
   rw [List.take_length] at hO
   have HR := hide (And.intro hO hf)
   clear hO hf
   go_wp2_with fail
   go_ret
   exact ⟨_, rfl, (unhide HR).1, (unhide HR).2⟩
end Go.Proofs.YtiknjghcjaaenaaGreatDoor
