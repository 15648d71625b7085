import Derived.Test.YtmmaddlphclpnaaGreatDoorXrk
import Derived.Test.YtmmaddlphclpnaaGreatDoorDlj
namespace Go.Proofs.YtmmaddlphclpnaaGreatDoor
open Go.RowKit Go.ChangeShapes Go.WideShapes Go.Maps Go.Sort

/-- A number's four bytes, the highest first. -/
def nb4 (n : Nat) : List Nat := [n / 16777216 % 256, n / 65536 % 256, n / 256 % 256, n % 256]
theorem nb4_len (n : Nat) : (nb4 n).length = 4 := rfl
set_option maxHeartbeats 1000000 in
set_option maxRecDepth 100000 in
theorem appendNumber_any (base n : Nat) (l : List Nat) (v : Value) (w : World) (h : w.ownsRow base 5 1 v l.length (cellsOf l)) (hb : base ≤ w.heap.size) (hl : l.length ≤ 10000000) (hn : n < 4294967296) :
    Calls Tryz.prog 82 #[v, .int .u32 (n : Nat)] w fun e w' => ∃ v', e = .returned v' ∧ w'.ownsRow base 5 1 v' (l ++ nb4 n).length (cellsOf (l ++ nb4 n)) ∧ Fr (fun g => v.ownBlock = some g) w w' ∧ ∀ g, v'.ownBlock = some g → v.ownBlock = some g ∨ w.heap.size ≤ g := by
  obtain ⟨ao, cp, rfl⟩ := own_form h
  have hsrc : Src (w.alloc (.cells #[.int .u8 ((n : Int) / 16777216), .int .u8 ((n : Int) / 65536 % 256), .int .u8 ((n : Int) / 256 % 256), .int .u8 ((n : Int) % 256)] 5)) (.slice (some ⟨w.heap.size, 0, none⟩) 4 4) (nb4 n) := by
    refine lit_srcW w (nb4 n) _ 4 ?_
    simp only [cellsOf, nb4, B, List.map_cons, List.map_nil, List.cons.injEq, Value.int.injEq, true_and, and_true]
    refine ⟨by omega, by omega, by omega, by omega⟩
  have h1 : (w.alloc (.cells #[.int .u8 ((n : Int) / 16777216), .int .u8 ((n : Int) / 65536 % 256), .int .u8 ((n : Int) / 256 % 256), .int .u8 ((n : Int) % 256)] 5)).ownsRow base 5 1 (.slice ao l.length cp) l.length (cellsOf l) := ownsRow_of_block h (fun k hk => Below.heap_alloc _ _ _ (h.lt k hk).2)
  obtain ⟨ao2, cap2, w2, hr, hown, hg, hat⟩ := run_app_sl _ 35 base l.length _ _ (cellsOf l) (nb4 n) h1 hsrc (by rw [nb4_len]; omega) (by simp; omega)
  have hf2 : Fr (fun g => (Value.slice ao l.length cp).ownBlock = some g) w w2 := ((box1 w _).mono (fun _ _ h => h.elim)).grown hg (fun g hg => .inl hg)
  have hb2 : ∀ g, (Value.slice ao2 (l.length + (nb4 n).length) cap2).ownBlock = some g → (Value.slice ao l.length cp).ownBlock = some g ∨ w.heap.size ≤ g := fun g hg => by
    rcases hat with e | e
    · exact .inl (e ▸ hg)
    · have := hg.symm.trans e
      simp at this
      exact .inr (by omega)
  rw [← cellsOf_append, ← List.length_append] at hown
  rw [← List.length_append] at hb2
  have HR := hide hr
  have H2 := hide (And.intro hown (And.intro hf2 hb2))
  clear hr hown hf2 hb2 hg hat h h1 hsrc
  go_enter Tryz.func82, Tryz.ntmps82
  go_wp2_with (at_builtin; refine wpList_app rfl _ _ 35 35 rfl _ _ _ rfl rfl (unhide HR) ?_; clear HR)
  go_ret
  exact ⟨_, by rw [List.length_append]; rfl, (unhide H2).1, (unhide H2).2.1, (unhide H2).2.2⟩
set_option maxRecDepth 100000 in
/-- sum. -/
theorem wsum_any (x y : Value) (l p : List Nat) (w : World) (hx : Src w x l) (hy : Src w y p) (hl : l.length ≤ 10000000) (hp : p.length ≤ 10000000) :
    Calls Tryz.prog 83 #[x, y] w fun e w' => e = .returned (.int .u32 (Sm (Sm 0 l) p : Nat)) ∧ Fr (fun _ => False) w w' := by
  have HX := hide (And.intro hx hy)
  clear hx hy
  go_enter Tryz.func83, Tryz.ntmps83
  go_wp2_with fail
  refine (csum_any x l w (unhide HX).1 (by omega)).mono ?_
  rintro e w2 ⟨rfl, hf2⟩
  have HF2 := hide hf2
  clear hf2
  go_wp2_with fail
  refine (up_any (Sm 0 l) y p w2 (Sm_lt 0 l (by decide)) ((unhide HX).2.fr0 (unhide HF2)) (by omega)).mono ?_
  rintro e w3 ⟨rfl, hf3⟩
  have HF3 := hide ((unhide HF2).trans hf3 (fun _ _ h => h))
  clear hf3
  go_wp2_with fail
  go_ret
  exact ⟨rfl, unhide HF3⟩
end Go.Proofs.YtmmaddlphclpnaaGreatDoor
