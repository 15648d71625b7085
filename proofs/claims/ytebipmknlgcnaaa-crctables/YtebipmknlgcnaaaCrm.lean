import Derived.Test.YtebipmknlgcnaaaCrl
import Derived.Laws.MakeOwn
import Derived.Laws.OwnMore
namespace Go.Proofs.Ytebipmknlgcnaaa
open Go.RowKit

theorem Up_zeros (n c : Nat) : Up c (List.replicate n 0) = Xn (8 * n) c := by
  induction n generalizing c with
  | zero => rfl
  | succ n ih =>
    rw [List.replicate_succ, Up, List.foldl_cons]
    show Up (By c 0) _ = _
    rw [ih, By, Nat.xor_zero, ← Xn_add, Nat.mul_succ, Nat.add_comm]
theorem nb_zeros (n : Nat) : nb (List.replicate n 0) = List.replicate n 0 := by simp [nb]
theorem zeros_sum (f n s : Nat) : (Sm f (List.replicate n 0) ^^^ Sm 0 (List.replicate n 0)) ^^^ s = Xn (8 * n) f ^^^ s := by
  rw [Sm, Sm, nb_zeros, Up_zeros, Up_zeros, x3, ← Xn_xor, x3, Nat.xor_zero]
theorem made_zeros (n : Nat) : madeCells (Value.int .u8 0).cells (n * 1) = (cellsOf (List.replicate n 0)).toArray := by
  have e : (Value.int .u8 0).cells = #[.int .u8 0] := rfl
  rw [e, Nat.mul_one, madeCells]
  apply Array.ext_getElem?
  intro j
  by_cases h : j < n <;> simp [cellsOf, B, h, Nat.mod_one]
theorem Try.infoU8 : (Try.prog.info? 5).map (fun i => (i.zero, i.size, i.bytes)) = some (some (.int .u8 0), 1, 1) := by kernel_rfl
set_option maxRecDepth 100000 in
theorem czeros_any (f s n : Nat) (w : World) (hf : f < 4294967296) (hs : s < 4294967296) (hn : n < 65536) :
    Calls Try.prog 8 #[.int .u32 f, .int .u32 s, .int .u16 n] w fun e w' => e = .returned (.bool true) ∧ Fr (fun _ => False) w w' := by
  obtain ⟨i0, hi, hz0, hz1, hz2⟩ := info_parts Try.infoU8
  have hmk := run_make (P := Try.prog) (w := w) 27 5 i0 (.int .u8 0) Try.underlying27 hi hz0 .i64 .i64 (n : Int) (n : Int) (by omega) (by omega) (by rw [hz2]; omega) (by omega)
  rw [hz1, Int.toNat_natCast, made_zeros] at hmk
  have hl : (List.replicate n 0).length ≤ 140737488355328 := by rw [List.length_replicate]; omega
  have hsrc : Src (w.alloc (.cells (cellsOf (List.replicate n 0)).toArray 5)) (.slice (some ⟨w.heap.size, 0, none⟩) n n) (List.replicate n 0) := src_new w _ _ _ _ _ (by rw [List.length_replicate]) rfl
  have hq := zeros_sum f n s
  have hb1 := Sm_lt f (List.replicate n 0) hf
  have hb2 := Sm_lt 0 (List.replicate n 0) (by decide)
  have hx1 := xor_u32 _ _ hb1 hb2
  have hx2 := xor_u32 _ s (Nat.xor_lt_two_pow (n := 32) hb1 hb2) hs
  have hF0 : Fr (fun _ => False) w (w.alloc (.cells (cellsOf (List.replicate n 0)).toArray 5)) := (Fr.refl _ _).alloc _
  generalize hZ : (cellsOf (List.replicate n 0)).toArray = Z at *
  generalize List.replicate n 0 = l at *
  clear hZ hb1 hb2
  have HQ := hide (And.intro hq (And.intro hsrc (And.intro hl hF0)))
  clear hq hsrc hl hF0 hi hz0 hz1 hz2
  generalize h1 : Sm f l = A at *
  generalize h2 : Sm 0 l = B' at *
  have H1 := hide h1
  have H2 := hide h2
  clear h1 h2
  go_enter Try.func8, Try.ntmps8
  go_wp2_with fail
  refine (combine_any f s n _ hf hs (by omega)).mono ?_
  rintro e w' ⟨rfl, rfl⟩
  rw [← (unhide HQ).1]
  go_wp2_with fail
  refine (awake_any _).mono ?_
  rintro e w1 ⟨rfl, hF⟩
  have K1 := hide hF
  clear hF
  go_wp2_with fail
  refine (up_any f _ l w1 hf ((unhide HQ).2.1.fr0 (unhide K1)) (unhide HQ).2.2.1).mono ?_
  rintro e w2 ⟨rfl, hF⟩
  rw [unhide H1]
  have K2 := hide ((unhide K1).trans hF (fun _ _ h => h))
  clear hF
  go_wp2_with fail
  refine (up_any 0 _ l w2 (by decide) ((unhide HQ).2.1.fr0 (unhide K2)) (unhide HQ).2.2.1).mono ?_
  rintro e w3 ⟨rfl, hF⟩
  rw [unhide H2]
  have K3 := hide ((unhide HQ).2.2.2.trans ((unhide K2).trans hF (fun _ _ h => h)) (fun _ _ h => h))
  clear hF
  go_wp2_with fail
  go_ret
  exact ⟨rfl, unhide K3⟩
end Go.Proofs.Ytebipmknlgcnaaa
