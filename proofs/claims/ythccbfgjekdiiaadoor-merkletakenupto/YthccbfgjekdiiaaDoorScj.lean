import Derived.Test.YthccbfgjekdiiaaDoorSci
namespace Go.Proofs.YthccbfgjekdiiaaDoor
open Go.RowKit

set_option maxRecDepth 100000 in
/-- sha.Sum. -/
theorem sum_any (n : Nat) (c : List Nat) (x : Value) (w : World) (hg : GS w) (hx : Src w x c) (hc : ∀ v ∈ c, v < 256) (hs : c.length < 9223372036854775808) (hcap : ∀ g n c', x = .slice g n c' → n ≤ c') (hlt : ∀ g o' n c', x = .slice (some ⟨g, o', none⟩) n c' → g < w.heap.size) (h1 : 1 ≤ n) (h2 : n ≤ 32) :
    Calls Tryd.prog 28 #[.int .i64 n, x] w fun e w' => ∃ g, e = .returned (.slice (some ⟨g, 0, none⟩) n n) ∧ BtAt w' g n (fun j => ((sby (dig c)).take n).getD j 0) ∧ Fr (fun _ => False) w w' ∧ NB w w' g n := by
  have hz1 := zero_h
  have HG := hide (And.intro hg (And.intro hx (And.intro hc (And.intro hs (And.intro hcap hlt)))))
  clear hg hx hc hs hcap hlt
  go_enter Tryd.func28, Tryd.ntmps28
  go_wp2_with fail
  refine (nothing_any w (unhide HG).1).mono ?_
  rintro e w1 ⟨rfl, hF1⟩
  obtain ⟨W2, hth, hW2, hH, hF2⟩ := lay_h w1
  have hi := info_h0
  have ho := one_h0
  have hF12 := hF1.trans hF2 (fun _ _ h => h)
  have hle : w.heap.size ≤ w1.heap.size := hF1.size
  generalize h0 = H at *
  generalize hz = Z at *
  have HB := hide (And.intro hth (And.intro hW2 (And.intro (HM.new hH) (And.intro hF12 (And.intro hle (And.intro hi ho))))))
  clear hth hW2 hH hF1 hF2 hi ho hF12 hle
  go_wp2_with (refine wpList_store_to rfl 93 (.tmp 5) (.tmp 6) rfl w1.heap.size 0 H.toArray rfl rfl (unhide HB).1 (unhide HB).2.2.2.2.2.1 (unhide HB).2.2.2.2.2.2 W2 (unhide HB).2.1 ?_)
  refine (write_any w1.heap.size 0 [] c x W2 ((unhide HG).1.fr0 (unhide HB).2.2.2.1) (Nat.le_trans (unhide HG).1.1.2 (unhide HB).2.2.2.2.1) (unhide HB).2.2.1 ((unhide HG).2.1.fr0 (unhide HB).2.2.2.1) (fun g o' n' c' e => ?_) (by simpa using (unhide HG).2.2.1) (by simpa using (unhide HG).2.2.2.1) (unhide HG).2.2.2.2.1).mono ?_
  · have h1 := (unhide HG).2.2.2.2.2 g o' n' c' e
    have h2 := (unhide HB).2.2.2.2.1
    omega
  rintro e w3 ⟨rfl, hM, hF3⟩
  rw [List.nil_append] at hM
  have hF03 : Fr (fun _ => False) w w3 := (unhide HB).2.2.2.1.trans (hF3.mono (T := fun k => w.heap.size ≤ k) (fun i _ h => by have h2 := (unhide HB).2.2.2.2.1; omega)) (fun i hi h => by omega)
  have H3 := hide (And.intro hM hF03)
  clear hM hF3 hF03
  go_wp2_with fail
  refine (hmsum_any w1.heap.size 0 n c w3 ((unhide HG).1.fr0 (unhide H3).2) (unhide H3).1 (unhide HG).2.2.1 (by have := (unhide HG).2.2.2.1; omega) h1 h2).mono ?_
  rintro e w4 ⟨g, rfl, hB, hF4, hg⟩
  have H4 := hide (And.intro hB (And.intro ((unhide H3).2.trans hF4 (fun _ _ h => h)) (hg.base (unhide H3).2.size)))
  clear hB hF4 hg
  go_wp2_with fail
  go_ret
  exact ⟨g, rfl, (unhide H4).1, (unhide H4).2.1, (unhide H4).2.2⟩
set_option maxRecDepth 100000 in
theorem sum_anyout (n : Int) (c : List Nat) (x : Value) (w : World) (hg : GS w) (hx : Src w x c) (hc : ∀ v ∈ c, v < 256) (hs : c.length < 9223372036854775808) (hcap : ∀ g n c', x = .slice g n c' → n ≤ c') (hlt : ∀ g o' n c', x = .slice (some ⟨g, o', none⟩) n c' → g < w.heap.size) (hn : n < 1 ∨ 32 < n) :
    Calls Tryd.prog 28 #[.int .i64 n, x] w fun e w' => e = .returned (.slice none 0 0) ∧ Fr (fun _ => False) w w' := by
  have hz1 := zero_h
  have HG := hide (And.intro hg (And.intro hx (And.intro hc (And.intro hs (And.intro hcap hlt)))))
  clear hg hx hc hs hcap hlt
  go_enter Tryd.func28, Tryd.ntmps28
  go_wp2_with fail
  refine (nothing_any w (unhide HG).1).mono ?_
  rintro e w1 ⟨rfl, hF1⟩
  obtain ⟨W2, hth, hW2, hH, hF2⟩ := lay_h w1
  have hi := info_h0
  have ho := one_h0
  have hF12 := hF1.trans hF2 (fun _ _ h => h)
  have hle : w.heap.size ≤ w1.heap.size := hF1.size
  generalize h0 = H at *
  generalize hz = Z at *
  have HB := hide (And.intro hth (And.intro hW2 (And.intro (HM.new hH) (And.intro hF12 (And.intro hle (And.intro hi ho))))))
  clear hth hW2 hH hF1 hF2 hi ho hF12 hle
  go_wp2_with (refine wpList_store_to rfl 93 (.tmp 5) (.tmp 6) rfl w1.heap.size 0 H.toArray rfl rfl (unhide HB).1 (unhide HB).2.2.2.2.2.1 (unhide HB).2.2.2.2.2.2 W2 (unhide HB).2.1 ?_)
  refine (write_any w1.heap.size 0 [] c x W2 ((unhide HG).1.fr0 (unhide HB).2.2.2.1) (Nat.le_trans (unhide HG).1.1.2 (unhide HB).2.2.2.2.1) (unhide HB).2.2.1 ((unhide HG).2.1.fr0 (unhide HB).2.2.2.1) (fun g o' n' c' e => ?_) (by simpa using (unhide HG).2.2.1) (by simpa using (unhide HG).2.2.2.1) (unhide HG).2.2.2.2.1).mono ?_
  · have h1 := (unhide HG).2.2.2.2.2 g o' n' c' e
    have h2 := (unhide HB).2.2.2.2.1
    omega
  rintro e w3 ⟨rfl, hM, hF3⟩
  have hF03 : Fr (fun _ => False) w w3 := (unhide HB).2.2.2.1.trans (hF3.mono (T := fun k => w.heap.size ≤ k) (fun i _ h => by have h2 := (unhide HB).2.2.2.2.1; omega)) (fun i hi h => by omega)
  have H3 := hide hF03
  clear hM hF3 hF03
  go_wp2_with fail
  refine (hsum_none w1.heap.size 0 n w3 hn).mono ?_
  rintro e w' ⟨rfl, rfl⟩
  go_wp2_with fail
  go_ret
  exact ⟨rfl, unhide H3⟩
end Go.Proofs.YthccbfgjekdiiaaDoor
