import Derived.Test.YtiknjghcjaaenaaGreatDoorKOap
namespace Go.Proofs.YtiknjghcjaaenaaGreatDoor
open Go.RowKit Go.Shelf
set_option maxRecDepth 100000 in
theorem sameName_any (x f : F5) (b : Nat) (w : World) (hb : w.cell? ⟨b, 0, none⟩ = some (.string f.n)) : Calls Tryz.prog 96 #[x.val, .pointer (some ⟨b, 0, none⟩)] w fun e w' => e = .returned (.bool (x.n.toList == f.n.toList)) ∧ Fr (fun _ => False) w w' := by
 obtain ⟨n, k, t, v, u⟩ := x
 have hbl : b < w.heap.size := lt_of_cell hb
 have heql := Tryz.eqlS
 simp only [F5.val, F5.cs]
 go_enter Tryz.func96, Tryz.ntmps96
 go_wp2_with fail
 go_ret
 exact ⟨rfl, box1 w _⟩
def fidx (l : List F5) (n : ByteArray) : Option Nat := l.findIdx? fun x => x.n.toList == n.toList
theorem fidx_at {l : List F5} {n : ByteArray} {j : Nat} (hj : j < l.length) (h : ∀ i (hi : i < l.length), i < j → (l[i].n.toList == n.toList) = false) (e : (l[j].n.toList == n.toList) = true) : fidx l n = some j := by
 unfold fidx
 rw [List.findIdx?_eq_some_iff_getElem]
 exact ⟨hj, e, fun i hi => by rw [h i (by omega) hi]; decide⟩
theorem fidx_no {l : List F5} {n : ByteArray} (h : ∀ i (hi : i < l.length), (l[i].n.toList == n.toList) = false) : fidx l n = none := by
 unfold fidx
 rw [List.findIdx?_eq_none_iff]
 intro x hx
 obtain ⟨i, hi, rfl⟩ := List.getElem_of_mem hx
 exact h i hi
def fix (o : Option Nat) : Int := match o with
 | some j => (j : Int)
 | none => -1
set_option maxHeartbeats 2000000 in
set_option maxRecDepth 100000 in
theorem indexF_any (xv : Value) (l : List F5) (f : F5) (b : Nat) (w : World) (hx : Fds w xv l) (hl : l.length ≤ 1000000) (hb : w.cell? ⟨b, 0, none⟩ = some (.string f.n)) : Calls Tryz.prog 95 #[xv, .func (.func 96) #[] #[.pointer (some ⟨b, 0, none⟩)]] w fun e w' => e = .returned (.int .i64 (fix (fidx l f.n))) ∧ Fr (fun _ => False) w w' := by
 obtain ⟨xo, xc, rfl⟩ := hx.form
 have HX := hide (And.intro hx hb)
 clear hx hb
 go_enter Tryz.func95, Tryz.ntmps95
 go_wp2_with fail
 go_loopw [8] (fun iv wr => ∃ j : Nat, j ≤ l.length ∧ iv = .int .i64 (j : Nat) ∧ (∀ i (hi : i < l.length), i < j → (l[i].n.toList == f.n.toList) = false) ∧ Fr (fun _ => False) w wr) (fun iv _ => l.length - (intOf iv).toNat)
 case atStart => exact ⟨0, Nat.zero_le _, rfl, fun i _ h => by omega, Fr.refl _ _⟩
 case round =>
  obtain ⟨j, hj, rfl, hno, hf⟩ := hrel
  by_cases hlt : j < l.length
  ·obtain ⟨g, o, rfl, c0, c1, c2, c3, c4⟩ := ((unhide HX).1.fr hf).at_ j hlt
   have hgl : g < wr.heap.size := lt_of_cell c0
   have hcb := (hf.cell (p := ⟨b, 0, none⟩) (lt_of_cell (unhide HX).2) (fun h => h)).trans (unhide HX).2
   have HC := hide (fun W (hW : Fr (fun _ => False) wr W) => sameName_any l[j] f b W ((hW.cell (p := ⟨b, 0, none⟩) (lt_of_cell hcb) (fun h => h)).trans hcb))
   have HR := hide (And.intro hno hf)
   simp only [F5.val, F5.cs] at HC
   obtain ⟨P, hP⟩ : ∃ P, l[j] = P := ⟨_, rfl⟩
   have HP := hide hP
   rw [hP] at c0 c1 c2 c3 c4 HC
   clear hno hf hcb hP
   have hi1 : (j : Int) < (l.length : Int) := by omega
   go_wp2_with fail
   refine ((unhide HC) _ (Fr.refl _ _)).mono ?_
   rintro e w2 ⟨rfl, hf2⟩
   have H2 := hide ((unhide HR).2.trans hf2 (fun _ _ h => h))
   clear hf2 HC
   cases hq : (P.n.toList == f.n.toList) with
   | true =>
    go_wp2_with fail
    go_ret
    refine ⟨?_, unhide H2⟩
    rw [fidx_at hlt (unhide HR).1 (by rw [unhide HP]; exact hq)]
    rfl
   | false =>
    have HQ := hide hq
    go_wp2_with fail
    refine ⟨⟨j + 1, by omega, by go_num, fun i hi hij => ?_, unhide H2⟩, by simp [intOf]; omega⟩
    rcases Nat.lt_or_ge i j with h1 | h1
    ·exact (unhide HR).1 i hi h1
    ·obtain rfl : i = j := by omega
     rw [unhide HP]
     exact unhide HQ
  ·go_wp2_with fail
   go_ret
   refine ⟨?_, hf⟩
   rw [fidx_no (fun i hi => hno i hi (by omega))]
   rfl
end Go.Proofs.YtiknjghcjaaenaaGreatDoor
