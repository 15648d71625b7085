import Derived.Test.YtiknjghcjaaenaaGreatDoorKOak
namespace Go.Proofs.YtiknjghcjaaenaaGreatDoor
open Go.RowKit Go.Shelf
def FOk (f : F5) : Prop := f.n.size ≤ 281474976710656 ∧ f.t.size ≤ 281474976710656
set_option maxHeartbeats 4000000 in
set_option maxRecDepth 100000 in
theorem ownCopies_any (x : Value) (l : List F5) (w : World) (hx : Fds w x l) (hl : l.length ≤ 1000) (hs : ∀ f ∈ l, FOk f) :
  Calls Tryz.prog 71 #[x] w fun e w' => ∃ v, e = .returned v ∧ OwF w' w.heap.size v l ∧ Fr (fun _ => False) w w' := by
 obtain ⟨xo, xc, rfl⟩ := hx.form
 have HX := hide hx
 clear hx
 obtain ⟨w1, hr1, ho1, hf1⟩ := make_fld l.length w (by omega)
 have H1 := hide (And.intro ho1 hf1)
 clear ho1 hf1
 go_enter Tryz.func71, Tryz.ntmps71
 go_wp2_with fail
 go_loopw [3, 11] (fun ov iv wr => ∃ j : Nat, j ≤ l.length ∧ iv = .int .i64 (j : Nat) ∧ OwF wr w.heap.size ov (l.take j) ∧ Fr (fun _ => False) w wr) (fun _ iv _ => l.length - (intOf iv).toNat)
 case atStart => exact ⟨0, Nat.zero_le _, rfl, by simpa using (unhide H1).1, (unhide H1).2⟩
 case round =>
  obtain ⟨j, hj, rfl, hO, hf⟩ := hrel
  by_cases hlt : j < l.length
  ·obtain ⟨g, o, rfl, c0, c1, c2, c3, c4⟩ := ((unhide HX).fr hf).at_ j hlt
   have hfo := hs l[j] (List.getElem_mem hlt)
   have htk : l.take (j + 1) = l.take j ++ [l[j]] := List.take_succ_eq_append_getElem hlt
   generalize l[j] = f at c0 c1 c2 c3 c4 hfo htk
   have hlen : (l.take j).length = j := by rw [List.length_take]; omega
   obtain ⟨oo, oc, hov⟩ := own_formX hO
   rw [hlen] at hov
   subst hov
   have hi1 : (j : Int) < (l.length : Int) := by omega
   have hgl : g < wr.heap.size := lt_of_cell c0
   have HC := hide (fun W => ownCopy_any f W hfo.1 hfo.2)
   simp only [F5.val, F5.cs] at HC
   have HR := hide (And.intro hO (And.intro hf htk))
   clear hO hf htk
   go_wp2_with fail
   refine ((unhide HC) _).mono ?_
   rintro e w2 ⟨rfl, hf2⟩
   have hF2 := (unhide HR).2.1.trans ((box1 wr _).trans hf2 (fun _ _ h => h)) (fun _ _ h => h)
   have hO2 := (unhide HR).1.fr ((box1 wr _).trans hf2 (fun _ _ h => h)) (fun _ _ h => h)
   obtain ⟨ao, cap, w3, hr3, ho3, hf3, hb3⟩ := app_fld w2 w.heap.size (.slice oo j oc) (l.take j) f hO2 hF2.size (by omega)
   rw [hlen] at hr3 ho3 hb3
   have HR3 := hide hr3
   have H3 := hide (And.intro ho3 (hF2.absorb hf3 (fun k hk => (hO2.lt k hk).1)))
   clear hf2 hF2 hO2 hr3 ho3 hf3 hb3
   go_wp2_with (at_builtin; refine wpList_app rfl _ _ 39 39 rfl _ _ _ rfl rfl (unhide HR3) ?_; clear HR3)
   refine ⟨⟨j + 1, by omega, by go_num, ?_, (unhide H3).2⟩, by simp [intOf]; omega⟩
   rw [(unhide HR).2.2]
   exact (unhide H3).1
  ·have hjl : j = l.length := by omega
   subst hjl
   rw [List.take_length] at hO
   have HR := hide (And.intro hO hf)
   clear hO hf
   go_wp2_with fail
   go_ret
   exact ⟨_, rfl, (unhide HR).1, (unhide HR).2⟩
end Go.Proofs.YtiknjghcjaaenaaGreatDoor
