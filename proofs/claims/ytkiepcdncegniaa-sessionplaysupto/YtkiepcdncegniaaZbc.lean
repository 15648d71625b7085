import Derived.Test.YtkiepcdncegniaaZbb
namespace Go.Proofs.Ytkiepcdncegniaa
open Go.RowKit Go.Maps Go.Sort Go.Shelf

/-- Blocks of one's own, made between two worlds. -/
def Nb (w w' : World) (g : Nat) : Prop := w.heap.size ≤ g ∧ g < w'.heap.size
set_option maxRecDepth 100000 in
/-- New. -/
theorem snew_in (c : Nat) (w : World) (h : c < 16) :
    Calls Try.prog 8 #[.int .u32 (c : Nat)] w fun e w' => ∃ d, e = .returned (.tuple #[.pointer (some ⟨d, 0, none⟩), .int .i64 0]) ∧ (∃ mw ma, SsAt w' d mw ma c [] [] (.slice none 0 0) (Nb w w')) ∧ Fr (fun _ => False) w w' := by
  have hm1 : ∀ w' : World, (Instr.makeMap 83 none).run Try.prog w' = .ok (.map (some w'.heap.size)) (w'.alloc (.map #[] 0)) := fun _ => rfl
  have hm2 : ∀ w' : World, (Instr.makeMap 84 none).run Try.prog w' = .ok (.map (some w'.heap.size)) (w'.alloc (.map #[] 0)) := fun _ => rfl
  have h1 : ¬ (c : Int) ≥ 16 := by omega
  have h2 : ¬ (16 : Int) ≤ (c : Int) := by omega
  have h3 : ¬ 16 ≤ c := by omega
  go_enter Try.func8, Try.ntmps8
  go_wp2
  go_ret2
  obtain ⟨w3, hw3⟩ : ∃ w3, ((w.alloc (.map #[] 0)).alloc (.map #[] 0)).alloc (.cells #[.int .u32 (c : Nat), .map (some w.heap.size), .map (some (w.heap.size + 1)), .slice none 0 0] 86) = w3 := ⟨_, rfl⟩
  have hs : w3.heap.size = w.heap.size + 3 := by rw [← hw3]; simp
  have hf : Fr (fun _ => False) w w3 := by rw [← hw3]; exact ((box1 w _).alloc _).alloc _
  have hb : w3.heap[w.heap.size + 2]? = some (.cells #[.int .u32 (c : Nat), .map (some w.heap.size), .map (some (w.heap.size + 1)), .slice none 0 0] 86) := by
    rw [← hw3]
    have := heap_alloc_new ((w.alloc (.map #[] 0)).alloc (.map #[] 0)) (.cells #[.int .u32 (c : Nat), .map (some w.heap.size), .map (some (w.heap.size + 1)), .slice none 0 0] 86)
    simpa using this
  have hk1 : MpR w3 w.heap.size c 0 (fun _ => none) := (MpR.made w c).keep (by rw [← hw3]; exact (Below.heap_alloc _ _ _ (by simp; omega)).trans (Below.heap_alloc _ _ _ (by simp)))
  have hk2 : MpR w3 (w.heap.size + 1) c 0 (fun _ => none) := by
    have := MpR.made (w.alloc (.map #[] 0)) c
    rw [World.size_alloc] at this
    exact this.keep (by rw [← hw3]; exact Below.heap_alloc _ _ _ (by simp))
  have e1 : fW [] = fun _ => none := by funext k; unfold fW; split <;> simp
  have e2 : fA [] = fun _ => none := by funext k; unfold fA; split <;> simp
  refine ⟨w.heap.size + 2, rfl, ?_, by rw [hw3]; exact hf⟩
  rw [hw3]
  exact ⟨w.heap.size, w.heap.size + 1, h, by simp, hb, by rw [e1]; exact hk1, by rw [e2]; exact hk2, ⟨World.ownsRow_nil _ _ _ _, fun g hg => (by cases hg), by simp⟩, fun q hq => (by simp at hq), fun i q hq => (by simp at hq), by unfold Nb; omega, by omega, fun g hg => hg.2⟩
set_option maxRecDepth 100000 in
theorem snew_no (c : Nat) (w : World) (h : 16 ≤ c) :
    Calls Try.prog 8 #[.int .u32 (c : Nat)] w fun e w' => e = .returned (.tuple #[.pointer none, .int .i64 1]) ∧ w' = w := by
  have h1 : (c : Int) ≥ 16 := by omega
  have h2 : (16 : Int) ≤ (c : Int) := by omega
  go_enter Try.func8, Try.ntmps8
  go_wp2
  go_ret2
  exact ⟨rfl, rfl⟩
theorem permI {cs : List SC} {c : Nat} {D : DataW Value} {ss : List (Nat × Nat)} (hA : AllI D ss) (hD : DR D c (fW cs)) (hc : c < 4294967296) (hl : cs.length < 4294967296) : ss.Perm ((wl cs).map fun k => (c, k)) := by
  have hkl : ∀ k ∈ wl cs, k < 4294967296 := fun k hk => by
    have := (wl_mem cs k).1 hk
    by_cases h : cs.length < k
    · rw [fW_no (.inr h)] at this; cases this
    · omega
  refine (List.perm_ext_iff_of_nodup hA.nd ?_).2 fun p => ?_
  · exact List.pairwise_map.2 ((wl_rise cs).imp fun h e => by simp at e; omega)
  · constructor
    · intro hp
      have hb := hA.lt p hp
      have h2 := (hA.mem p.1 p.2 hb.1 hb.2).1 hp
      rw [hD.has p.1 p.2 hb.1 hb.2, Bool.and_eq_true, decide_eq_true_eq] at h2
      exact List.mem_map.2 ⟨p.2, (wl_mem cs p.2).2 h2.2, by rw [← h2.1]⟩
    · intro hp
      obtain ⟨k, hk, rfl⟩ := List.mem_map.1 hp
      refine (hA.mem c k hc (hkl k hk)).2 ?_
      rw [hD.has c k hc (hkl k hk), (wl_mem cs k).1 hk]
      simp
theorem idsI {cs : List SC} {c : Nat} {ss : List (Nat × Nat)} (hp : ss.Perm ((wl cs).map fun k => (c, k))) (hs : ss.Pairwise (fun a b => a.2 ≤ b.2)) : ss = (wl cs).map fun k => (c, k) := by
  refine List.Perm.eq_of_pairwise (le := fun a b => a.2 ≤ b.2) (fun a b ha hb h1 h2 => ?_) hs (List.pairwise_map.2 ((wl_rise cs).imp fun h => by simp; omega)) hp
  obtain ⟨k, hk, rfl⟩ := List.mem_map.1 hb
  obtain ⟨k', hk', rfl⟩ := List.mem_map.1 (hp.mem_iff.1 ha)
  simp at h1 h2 ⊢
  omega
theorem keysC (mb : Option Nat) (w : World) : Calls Try.prog 30 #[.map mb] w fun e w' => e = .returned (.func (.func 46) #[] #[.pointer (some ⟨w.heap.size, 0, none⟩)]) ∧ w' = w.alloc (.cells #[.map mb] 83) :=
  callsIn_wide.1 (keysI Fence.wide wide_fn rfl 1 mb w)
set_option maxRecDepth 100000 in
/-- slices.SortedFunc of the keys. -/
theorem sortedI (d mw ma c : Nat) (cs : List SC) (dn : List Nat) (dv : Value) (T : Nat → Prop) (w : World) (h : SsAt w d mw ma c cs dn dv T) :
    Calls Try.prog 29 #[.func (.func 46) #[] #[.pointer (some ⟨w.heap.size, 0, none⟩)], .func (.func 31) #[] #[]] (w.alloc (.cells #[.map (some mw)] 83)) fun e w' => ∃ v, e = .returned v ∧ OwI w' w.heap.size v ((wl cs).map fun k => (c, k)) ∧ Fr (fun _ => False) w w' := by
  obtain ⟨D, hown, hsz, hD⟩ := h.wm
  have hbl := h.lt mw h.own.2.1
  have hn := nWA cs
  have hl := h.len
  have hc := h.c16
  have hseq : SeqGives Fence.wide 1 Try.prog 46 #[.pointer (some ⟨w.heap.size, 0, none⟩)] encI (AllI D) (Maps.size D) (w.alloc (.cells #[.map (some mw)] 83)) :=
    keysI_gives Fence.wide wide_fn rfl 1 (by omega) w.heap.size mw (nW cs) D _ (by simp) (by simp) (ownsMap_keep hown (Below.heap_alloc _ _ mw hbl))
  have HC := hide (collectI 46 #[.pointer (some ⟨w.heap.size, 0, none⟩)] (enters_of Try.func46 (by kernel_rfl) rfl) (AllI D) (Maps.size D) (by omega) _ hseq)
  have HD := hide (And.intro hD (And.intro hsz (And.intro hn (And.intro hl hc))))
  clear hown hsz hD hbl hseq hn hl hc h
  go_enter Try.func29, Try.ntmps29
  go_wp2_with fail
  refine (unhide HC).mono ?_
  rintro e w1 ⟨v, ss, rfl, hS, hrow, hb⟩
  obtain ⟨ao, cap, rfl⟩ := own_formX hrow
  have hpm := permI hS (unhide HD).1 (by have := (unhide HD).2.2.2.2; omega) (by have := (unhide HD).2.2.2.1; omega)
  have hll : ss.length ≤ 1048576 := by
    have h1 := hpm.length_eq
    have h2 := wl_len cs
    have h3 := (unhide HD).2.2.2.1
    simp at h1
    omega
  have HR := hide (And.intro hpm (And.intro hrow hb))
  have HX := hide (sortI_any w1 _ ss ao cap hrow hll)
  clear hS hrow hb hll hpm
  go_wp2_with fail
  refine (unhide HX).mono ?_
  rintro e w2 ⟨rfl, L', hp, hs, hrow2, hf2⟩
  have HY := hide (And.intro hp (And.intro hs (And.intro hrow2 hf2)))
  clear hp hs hrow2 hf2
  go_wp2_with fail
  go_ret
  have e := idsI ((unhide HY).1.trans (unhide HR).1) (unhide HY).2.1
  have hb := (unhide HR).2.2
  have hr2 := (unhide HY).2.2.1
  rw [e] at hr2
  refine ⟨_, rfl, ownsRow_base hr2 (by simp), ?_⟩
  refine ((box1 w _).trans0 (Fr.of_below hb)).trans (unhide HY).2.2.2 (fun g hg hx => ?_)
  have := ((unhide HR).2.1.lt g hx).1
  simp at this
  omega
set_option maxRecDepth 100000 in
/-- Waiting. -/
theorem swaiting_any (d mw ma c : Nat) (cs : List SC) (dn : List Nat) (dv : Value) (T : Nat → Prop) (w : World) (h : SsAt w d mw ma c cs dn dv T) :
    Calls Try.prog 17 #[.pointer (some ⟨d, 0, none⟩)] w fun e w' => ∃ v, e = .returned v ∧ OwI w' w.heap.size v ((wl cs).map fun k => (c, k)) ∧ Fr (fun _ => False) w w' := by
  have c1 := h.cells.2.1
  have HS := hide (sortedI d mw ma c cs dn dv T w h)
  clear h
  go_enter Try.func17, Try.ntmps17
  go_wp2_with fail
  refine (keysC _ _).mono ?_
  rintro e w1 ⟨rfl, rfl⟩
  go_wp2_with fail
  refine (unhide HS).mono ?_
  rintro e w2 ⟨v, rfl, hrow, hf⟩
  go_wp2_with fail
  go_ret
  exact ⟨_, rfl, hrow, hf⟩
set_option maxRecDepth 100000 in
/-- Done. -/
theorem sdone_any (d mw ma c : Nat) (cs : List SC) (dn : List Nat) (dv : Value) (T : Nat → Prop) (w : World) (h : SsAt w d mw ma c cs dn dv T) :
    Calls Try.prog 18 #[.pointer (some ⟨d, 0, none⟩)] w fun e w' => ∃ v, e = .returned v ∧ OwI w' w.heap.size v (dn.map fun k => (c, k)) ∧ Fr (fun _ => False) w w' := by
  have c3 := h.cells.2.2.2.1
  have HC := hide (cloneId dv dn.length (icells (dn.map fun k => (c, k))) w (own_rd h.dn.o (fun u hu => by
    simp only [icells, List.mem_flatMap] at hu
    obtain ⟨p, _, hu⟩ := hu
    simp at hu
    rcases hu with rfl | rfl <;> rfl)) h.dn.l)
  clear h
  go_enter Try.func18, Try.ntmps18
  go_wp2_with fail
  refine (unhide HC).mono ?_
  rintro e w2 ⟨v, rfl, hrow, hf⟩
  go_wp2_with fail
  go_ret
  exact ⟨_, rfl, by unfold OwI; rw [List.length_map]; exact hrow, hf⟩
end Go.Proofs.Ytkiepcdncegniaa
