import Derived.Test.YtoflkfnmbighaaaDkl
namespace Go.Proofs.Ytoflkfnmbighaaa
open Go.RowKit Go.ChangeShapes Go.WideShapes Go.Maps Go.Sort Go.Shelf

set_option maxRecDepth 100000 in
/-- Read(name, 0, n), n at most the file's bytes. -/
theorem read0_at (d m n : Nat) (s : DM) (q : DW) (O : Nat → Prop) (name : ByteArray) (w : World) (h : DkAt w d m s q O) (ho : s.off = false) (hn : name.size ≤ maxLen) (hh : Maps.has s.D (.string (nm name)) = true) (hb : (s.F (nm name)).b.length ≤ 1048576) (hl : n ≤ (s.F (nm name)).b.length) :
    Calls Try.prog 20 #[.pointer (some ⟨d, 0, none⟩), .string name, .int .i64 0, .int .i64 (n : Nat)] w fun e w' => ∃ v, e = .returned (.tuple #[v, .int .i64 0]) ∧ w'.ownsRow w.heap.size 5 1 v n (cellsOf ((s.F (nm name)).b.take n)) ∧ Fr (fun _ => False) w w' := by
  have HF := hide (find_at d m s q O name w h ho hn hh)
  have hA := (h.at_ _ hh).2
  obtain ⟨c0, _⟩ := hA.cells
  obtain ⟨bo, bc, e⟩ := own_form hA.bo
  rw [e] at c0
  have hcap : (s.F (nm name)).b.length ≤ bc := by
    have hbo := hA.bo
    rw [e] at hbo
    rcases hbo.2 with ⟨_, e2⟩ | ⟨g, c, cur, e2, _, _, hc, _⟩
    · omega
    · simp only [Value.slice.injEq] at e2; omega
  have hsrc : Src w (.slice bo n bc) ((s.F (nm name)).b.take n) := by
    have hbo := hA.bo
    rw [e] at hbo
    exact (own_src hbo).takeN n hl
  generalize (s.F (nm name)).b = B at *
  have HC : Hid (∀ W, Fr (fun _ => False) w W → Calls Try.prog 52 #[.slice bo n bc] W fun e w' => ∃ v, e = .returned v ∧ w'.ownsRow w.heap.size 5 1 v n (cellsOf (B.take n)) ∧ Fr (fun _ => False) w w') := fun W hW => by
    refine (clone_any _ _ W (hsrc.fr hW (fun _ _ _ _ _ h => h)) (by rw [List.length_take]; omega)).mono ?_
    rintro e w' ⟨v, h1, h2, h3⟩
    rw [List.length_take, Nat.min_eq_left hl] at h2
    exact ⟨v, h1, own_mono h2 hW.size, hW.trans h3 (fun _ _ h => h)⟩
  have hncap : n ≤ bc := by omega
  clear h ho hn hh e hA hsrc
  go_enter Try.func20, Try.ntmps20
  go_wp2_with (go_at_call 33; refine (unhide HF).mono ?_; rintro e w' ⟨rfl, rfl⟩)
  refine ((unhide HC) _ (Fr.refl _ _)).mono ?_
  rintro e w2 ⟨v, rfl, hv, hf⟩
  have H2 := hide (And.intro hv hf)
  clear hv hf
  go_wp2_with fail
  go_ret2
  exact ⟨v, rfl, (unhide H2).1, (unhide H2).2⟩
theorem Fr.of_below {w w' : World} (h : Below w.heap.size w w') : Fr (fun _ => False) w w' := ⟨h.os, h.tape, h.output, h.size, fun k hk _ => h.block k hk⟩
set_option maxRecDepth 100000 in
theorem sclone_any (s : ByteArray) (w : World) (hs : s.size ≤ 281474976710656) :
    Calls Try.prog 32 #[.string s] w fun e w' => e = .returned (.string s) ∧ Fr (fun _ => False) w w' := by
  have H := hide (Any.stringslite_Clone laysC s w hs)
  go_enter Try.func32, Try.ntmps32
  go_wp2_with (go_at_call 56; refine (unhide H).mono ?_; rintro e w' ⟨rfl, hb⟩)
  have HB := hide (Fr.of_below hb)
  clear hb
  go_wp2_with fail
  go_ret
  exact ⟨rfl, unhide HB⟩
theorem sorts_any (m : Nat) : AnyZ.SortsIn Try.prog sortedA_ren Fence.wide m :=
  ⟨fun blk off cap ss W hH hblk hsz => callsIn_wide.2 (AnyM.slices_Sort_string sortA blk off cap ss W hH hblk hsz),
   fun p cap W => callsIn_wide.2 (AnyM.slices_Sort_string_none sortA p cap W)⟩
set_option maxHeartbeats 1000000 in
set_option maxRecDepth 100000 in
/-- Names. -/
theorem names_any (d m : Nat) (s : DM) (q : DW) (O : Nat → Prop) (w : World) (h : DkAt w d m s q O) (hs : Maps.size s.D ≤ 256) :
    Calls Try.prog 30 #[.pointer (some ⟨d, 0, none⟩)] w fun e w' => ∃ (v : Value) (ss : List (List UInt8)), e = .returned v ∧ ss.Perm (strKeys s.D) ∧
      w'.ownsRow w.heap.size 9 1 v ss.length ((ss.mergeSort (fun x y => decide (x ≤ y))).map encStr) ∧ Fr (fun _ => False) w w' := by
  refine (callsIn_wide (n := 6)).1 ?_
  have hown := h.map
  have hbl := hown.lt
  obtain ⟨c0, c1, c2, c3, c4, c5, c6, c7, fz⟩ := h.cells
  clear c0 c2 c3 c4 c5 c6 c7 fz
  have hseq : SeqGives Fence.wide 2 Try.prog 61 #[.pointer (some ⟨w.heap.size, 0, none⟩)] encStr (fun ss => ss.Perm (strKeys s.D)) (Maps.size s.D) (w.alloc (.cells #[.map (some m)] 46)) :=
    AnyZ.keys_gives (ρ := keysA_ren) { keysA with } Fence.wide _ trivial rfl (by omega) w.heap.size m (Maps.size s.D) s.D _ (by simp) (by simp) (by
      obtain ⟨es, clock, hb, Ft, hs, hD⟩ := hown
      exact ⟨es, clock, (Below.heap_alloc _ _ m hbl).trans hb, Ft, hs, hD⟩)
  have cK : ∀ mb W, CallsIn Fence.wide 5 Try.prog 55 #[.map mb] W fun e w' => e = .returned (.func (.func 61) #[] #[.pointer (some ⟨W.heap.size, 0, none⟩)]) ∧ w' = W.alloc (.cells #[.map mb] 46) := fun mb W => AnyZ.keys_in keysA Fence.wide 5 trivial rfl mb W
  have cS := AnyZ.sorted_in sortedA Fence.wide 5 trivial trivial trivial trivial rfl (by omega) (sorts_any _) (enters_of Try.func60 (by kernel_rfl) rfl) 61 #[.pointer (some ⟨w.heap.size, 0, none⟩)] trivial (enters_of Try.func61 (by kernel_rfl) rfl) _ _ (by simp only [maxLen]; omega) (by omega) _ hseq
  change CallsIn _ _ Try.prog 54 _ _ _ at cS
  have hfK : Fence.wide.fn 55 := trivial
  have hfS : Fence.wide.fn 54 := trivial
  clear hseq hown h
  refine callsIn_of_wp Try.func30 rfl trivial ?_ rfl
  simp only [Try.ntmps30, List.size_toArray, List.length_cons, List.length_nil, Nat.reduceAdd, Nat.reduceSub, Array.replicate_succ, Array.replicate_zero, List.push_toArray, List.append_toArray, List.nil_append, List.cons_append]
  gi_wp2_with (first
    | (gi_at_call 55; refine (cK _ _).mono ?_; rintro e w' ⟨rfl, rfl⟩)
    | (gi_at_call 54; refine cS.mono ?_; rintro e w' ⟨v, ss, rfl, hS, hrow, hnil, hb⟩))
  go_ret
  exact ⟨v, ss, rfl, hS, ownsRow_base hrow (by simp), (box1 w _).trans (Fr.of_below hb) (fun _ _ h => h)⟩
end Go.Proofs.Ytoflkfnmbighaaa
