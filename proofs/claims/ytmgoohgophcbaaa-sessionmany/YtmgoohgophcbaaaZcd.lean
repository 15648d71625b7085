import Derived.Test.YtmgoohgophcbaaaZcc
namespace Go.Proofs.Ytmgoohgophcbaaa
open Go.RowKit Go.Maps

theorem wrapS (k : Nat) (h : k ≤ 1000000000) : wrap64 ((k : Int) + 1) = (k : Int) + 1 := by unfold wrap64; omega
theorem wrapU (k : Nat) (h : k ≤ 1000000000) : IntKind.u32.wrap ((k : Int) + 1) = (k : Int) + 1 := by
  have e : ((k : Int) + 1) % 4294967296 = (k : Int) + 1 := by omega
  simp [IntKind.wrap, IntKind.bits, IntKind.signed, e]
theorem eql_00 (w : World) : (binOp .eql 29 (.agg #[.int .u32 0, .int .u32 0]) (.agg #[.int .u32 0, .int .u32 0])).run Try.prog w = .ok (.bool true) w := eql_id 0 0 0 0 w
/-- SessionMany's loop: all that were called are answered. -/
structure MI (w wr : World) (d i : Nat) (cs : List SC) (dn : List Nat) (T : Nat → Prop) : Prop where
  s : SS wr d 15 cs dn T
  c : cs.length = i
  n : dn.length = i
  a : ∀ q ∈ cs, q.d.isSome = true
  b : ∀ g, T g → w.heap.size ≤ g
  f : Fr (fun _ => False) w wr
theorem wl_nil {cs : List SC} (h : ∀ q ∈ cs, q.d.isSome = true) : wl cs = [] := by
  apply List.eq_nil_iff_forall_not_mem.2
  intro k hk
  have h1 := (wl_mem cs k).1 hk
  unfold fW at h1
  split at h1
  · cases h1
  · cases hq : cs[k - 1]? with
    | none => rw [hq] at h1; cases h1
    | some q =>
      rw [hq] at h1
      have := h q (List.mem_of_getElem? hq)
      cases hd : q.d with
      | none => rw [hd] at this; cases this
      | some x => simp [hd] at h1
set_option maxRecDepth 100000 in
set_option maxHeartbeats 4000000 in
/-- SessionMany. -/
theorem smany_any (w : World) : Calls Try.prog 6 #[] w fun e w' => e = .returned (.bool true) ∧ Fr (fun _ => False) w w' := by
  go_enter Try.func6, Try.ntmps6
  go_wp2_with fail
  refine (awake17 w).mono ?_
  rintro e w0 ⟨rfl, hf0⟩
  have HF0 := hide hf0
  clear hf0
  go_wp2_with fail
  refine (SS.new 15 w0 (by omega)).mono ?_
  rintro e w1 ⟨d, rfl, hs1, hf1⟩
  have HM : Hid (MI w w1 d 0 [] [] (Nb w0 w1)) := hide ⟨hs1, rfl, rfl, (fun q hq => by simp at hq), (fun g hg => Nat.le_trans (unhide HF0).size hg.1), (unhide HF0).trans0 hf1⟩
  clear hs1 hf1
  go_wp2_with fail
  go_loopw [3] (fun iv wr => ∃ (i : Nat) (cs : List SC) (dn : List Nat) (T : Nat → Prop), i ≤ 4096 ∧ iv = .int .i64 (i : Nat) ∧ MI w wr d i cs dn T) (fun iv _ => 4096 - (intOf iv).toNat)
  case atStart => exact ⟨0, [], [], _, by omega, rfl, unhide HM⟩
  case round =>
    obtain ⟨i, cs, dn, T, hi, rfl, hM⟩ := hrel
    clear HM
    rename World => wr
    have HI := hide hM
    clear hM
    by_cases hlt : i < 4096
    · have hlt2 : (i : Int) < 4096 := by omega
      go_wp2_with fail
      refine (create_any _).mono ?_
      rintro e w2 ⟨rfl, hf2⟩
      have HC : Hid (Calls Try.prog 10 #[.pointer (some ⟨d, 0, none⟩), crR.v] w2 fun e w' => e = .returned (.tuple #[.agg #[.int .u32 15, .int .u32 ((i : Int) + 1)], .int .i64 0]) ∧ (∃ v, SS w' d 15 (cs ++ [⟨⟨15, i + 1, 1, 1, 0, 0, 7, 6, v, ⟨#[]⟩⟩, [], 0, 0, none⟩]) dn (Tn T w2 w')) ∧ Fr T w2 w') := hide (by
        have := ((unhide HI).s.fr0 hf2).call crR [] (Rd.nil w2 5) (by simp) (fun f hf => by simp at hf) rfl (by rw [(unhide HI).c]; exact hlt)
        rw [(unhide HI).c] at this
        exact this)
      have HF2 := hide hf2
      clear hf2
      go_wp2_with fail
      refine (unhide HC).mono ?_
      rintro e w3 ⟨rfl, ⟨v, hs3⟩, hf3⟩
      have HS3 := hide (And.intro hs3 hf3)
      clear hs3 hf3 HC
      have hw1 := wrapS i (by omega)
      have hw2 := wrapU i (by omega)
      go_wp2_with fail
      have HA : Hid (∀ W, Calls Try.prog 16 #[.int .u32 15, .int .u32 ((i : Int) + 1), .int .u32 1] W fun e w' => e = .returned (.agg (ansM 15 (i + 1) 1).toArray) ∧ Fr (fun _ => False) W w') := hide (fun W => answered_any 15 (i + 1) 1 W)
      refine ((unhide HA) _).mono ?_
      rintro e w5 ⟨rfl, hf5⟩
      have hf35 : Fr (fun _ => False) w3 w5 := (box1 w3 _).trans0 hf5
      have hlc := (unhide HI).c
      have hln := (unhide HI).n
      have HT := hide (((unhide HS3).1.fr0 hf35).answer (ansM 15 (i + 1) 1) 0 0 0 (ansA 15 (i + 1) 1) (ansM_x 15 (i + 1) 1) i _ (by rw [← hlc]; exact List.getElem?_concat_length) rfl rfl rfl [] [] (Rd.nil w5 5) (Rd.nil w5 4) (by simp) (by simp) (by omega))
      have HF5 := hide hf35
      clear hf5 hf35 HA hlc hln
      go_wp2_with fail
      refine (unhide HT).mono ?_
      rintro e w6 ⟨r6, rfl, rfl, ⟨v6, u6, hs6⟩, hf6⟩
      clear HT
      have h2 := unhide HF2
      have h3 := (unhide HS3).2
      have h5 := unhide HF5
      have hb := (unhide HI).b
      have hbT3 : ∀ g, Tn T w2 w3 g → w.heap.size ≤ g := fun g hg => by
        rcases hg with hg | hg
        · exact hb g hg
        · have := hg.1; have := (unhide HI).f.size; have := h2.size; omega
      have hfw3 : Fr (fun _ => False) w w3 := ((unhide HI).f.trans0 h2).trans h3 (fun g hg e => by have := hb g e; omega)
      have hfw5 := hfw3.trans0 h5
      have hfw6 : Fr (fun _ => False) w w6 := hfw5.trans hf6 (fun g hg e => by have := hbT3 g e; omega)
      have hset : ∀ x y : SC, (cs ++ [x]).set i y = cs ++ [y] := fun x y => by
        rw [List.set_append_right _ _ (by rw [(unhide HI).c]; exact Nat.le_refl _), (unhide HI).c, Nat.sub_self]
        rfl
      rw [hset] at hs6
      have HM6 : Hid (∃ cs' dn' T', MI w w6 d (i + 1) cs' dn' T') := hide ⟨_, _, _, hs6, by simp [(unhide HI).c], by simp [(unhide HI).n], (fun q hq => by
        rcases List.mem_append.1 hq with hq' | hq'
        · exact (unhide HI).a q hq'
        · simp at hq'; subst hq'; rfl), (fun g hg => by
          rcases hg with hg | hg
          · exact hbT3 g hg
          · have := hg.1; have := hfw5.size; omega), hfw6⟩
      clear h2 h3 h5 hb hbT3 hfw3 hfw5 hfw6 hs6 hf6 HF5 HS3 HF2 hset
      go_wp2_with fail
      go_roundw
      case rel =>
        obtain ⟨cs', dn', T', hm⟩ := unhide HM6
        exact ⟨i + 1, cs', dn', T', by omega, by go_num, hm⟩
      case measure => simp [intOf]; omega
    · obtain rfl : i = 4096 := by omega
      clear hlt
      go_wp2_with fail
      refine (create_any _).mono ?_
      rintro e w2 ⟨rfl, hf2⟩
      have HC := hide (((unhide HI).s.fr0 hf2).full crR [] (Rd.nil w2 5) (by simp) (fun f hf => by simp at hf) rfl (unhide HI).c)
      have HF2 := hide hf2
      clear hf2
      go_wp2_with fail
      refine (unhide HC).mono ?_
      rintro e w3 ⟨rfl, hf3⟩
      have HF3 := hide hf3
      clear HC hf3
      have heq := eql_00
      go_wp2_with fail
      have hs4 : SS (w3.alloc (.cells #[.int .u32 0, .int .u32 0] 29)) d 15 cs dn T := (((unhide HI).s.fr0 (unhide HF2)).fr0 (unhide HF3)).fr0 (box1 _ _)
      have hl := (unhide HI).n
      refine hs4.done.mono ?_
      rintro e w5 ⟨v5, rfl, ho5, hf5⟩
      obtain ⟨ao5, cap5, e5⟩ := own_formX ho5
      rw [List.length_map, hl] at e5
      subst e5
      have hs5 := hs4.fr0 hf5
      have HS5 := hide (And.intro hs5 hf5)
      clear hs4 hs5 hf5 ho5 hl
      go_wp2_with fail
      refine (unhide HS5).1.waiting.mono ?_
      rintro e w6 ⟨v6, rfl, ho6, hf6⟩
      rw [wl_nil (unhide HI).a] at ho6
      obtain ⟨ao6, cap6, e6⟩ := own_formX ho6
      have e6' : v6 = .slice ao6 0 cap6 := e6
      subst e6'
      have HF6 : Hid (Fr (fun _ => False) w w6) := hide ((((((unhide HI).f.trans0 (unhide HF2)).trans0 (unhide HF3)).trans0 (box1 _ _)).trans0 (unhide HS5).2).trans0 hf6)
      clear ho6 hf6 e6
      go_wp2_with fail
      go_ret
      exact ⟨rfl, unhide HF6⟩
end Go.Proofs.Ytmgoohgophcbaaa
