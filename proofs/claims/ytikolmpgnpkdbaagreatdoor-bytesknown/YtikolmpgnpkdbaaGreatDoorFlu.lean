import Derived.Test.YtikolmpgnpkdbaaGreatDoorFlt
namespace Go.Proofs.YtikolmpgnpkdbaaGreatDoor
open Go.RowKit

/-- What F32 makes of a writer. -/
def Wst.flt (s : Wst) (x : Nat) (er : Addr) : Wst := if quantB x = true then s.putB (be 4 x) else s.fail er

set_option maxRecDepth 100000 in
theorem wF32_any (b x : Nat) (F : Nat → Prop) (s : Wst) (er : Addr) (w : World) (hr : Rg w er) (h : W w b F s) (hx : x < 4294967296) (hl : s.l.length + 4 ≤ 140737488355328) :
    Calls Tryz.prog 10 #[.pointer (some ⟨b, 0, none⟩), .float .f32 x] w fun e w' => e = .returned (.tuple #[]) ∧ ∃ F', W w' b F' (s.flt x er) ∧ Ch w w' F F' := by
  have hb := h.lt b h.fb
  have hmf := mf
  have HG := hide hr
  clear hr
  by_cases hn : s.f = none
  · have HN := hide hn
    by_cases hq : quantB x = true
    · rw [Wst.flt, if_pos hq, Wst.putB, if_pos hn]
      clear hn
      go_enter Tryz.func10, Tryz.ntmps10
      go_wp2_with fail
      refine (att_ok (w := w) (be 4 x) h (unhide HN) (box2 _ _ _) (enters Tryz.func30 (by kernel_rfl) (by kernel_rfl) _) (fun wk sv hk h2 f2 ho hF => wF32_clo b x ⟨w.heap.size + 1, 0, none⟩ ⟨w.heap.size, 0, none⟩ er sv s.l wk hx hq ((unhide HG).fr0 ((box2 _ _ _).trans hk (fun _ _ h => h))) ((hk.cell (by simp) (fun h => h)).trans (by simp)) ((hk.cell (by simp <;> omega) (fun h => h)).trans (by simp)) h2 f2 ho hl)).mono ?_
      rintro e w' ⟨rfl, hq⟩
      go_wp2_with fail
      go_end0
      exact ⟨rfl, hq⟩
    · have hq' : quantB x = false := by simpa using hq
      rw [Wst.flt, if_neg hq, Wst.fail, if_pos hn]
      clear hn hq
      go_enter Tryz.func10, Tryz.ntmps10
      go_wp2_with fail
      refine (att_bad (w := w) s.l.length er h (unhide HN) (box2 _ _ _) (enters Tryz.func30 (by kernel_rfl) (by kernel_rfl) _) (fun wk hk hW => by
        obtain ⟨ao, cap, h2⟩ := hW.sv (unhide HN)
        exact wF32_clo_bad b x ⟨w.heap.size + 1, 0, none⟩ ⟨w.heap.size, 0, none⟩ er s.nm ao s.l.length cap wk hx hq' ((unhide HG).fr0 ((box2 _ _ _).trans hk (fun _ _ h => h))) ((hk.cell (by simp) (fun h => h)).trans (by simp)) ((hk.cell (by simp <;> omega) (fun h => h)).trans (by simp)) hW.c0 h2)).mono ?_
      rintro e w' ⟨rfl, hq⟩
      go_wp2_with fail
      go_end0
      exact ⟨rfl, hq⟩
  · have HN := hide hn
    have e : s.flt x er = s := by simp [Wst.flt, Wst.putB, Wst.fail, hn]
    rw [e]
    clear hn e
    go_enter Tryz.func10, Tryz.ntmps10
    go_wp2_with fail
    refine (att_given (w := w) h (unhide HN) (box2 _ _ _)).mono ?_
    rintro e w' ⟨rfl, hq⟩
    go_wp2_with fail
    go_end0
    exact ⟨rfl, hq⟩

set_option maxRecDepth 100000 in
theorem lay5_any (b u : Nat) (s : ByteArray) (n m : Int) (F : Nat → Prop) (st : Wst) (er : Addr) (w : World) (hr : Rg w er) (h : W w b F st) (hl : st.l.length + 4 ≤ 140737488355328) :
    Calls Tryz.prog 19 #[.pointer (some ⟨b, 0, none⟩), .agg #[.int .i64 5, .int .u64 u, .string s, .int .i64 n, .int .i64 m]] w fun e w' => e = .returned (.tuple #[]) ∧ ∃ F', W w' b F' (st.flt (u % 4294967296) er) ∧ Ch w w' F F' := by
  have H := hide (And.intro h hr)
  clear h hr
  have hff : ∀ w, (callFunc 43 #[.int .u32 ((u : Int) % 4294967296)]).run Tryz.prog w = .ok (.value (.float .f32 (u % 4294967296))) w := fun w => Tryz.ffrom (u % 4294967296) w
  have hw : IntKind.u32.wrap (u : Int) = (u : Int) % 4294967296 := by rw [IntKind.wrap_u32]
  go_enter Tryz.func19, Tryz.ntmps19
  go_wp2_with fail
  refine (wF32_any b (u % 4294967296) F st er _ ((unhide H).2.fr0 (box1 w _)) ((unhide H).1.frame (box1 w _) (fun _ _ h => h)) (Nat.mod_lt _ (by decide)) hl).mono ?_
  rintro e w' ⟨rfl, F', hW, hc⟩
  have HH := hide (And.intro hW hc)
  clear hW hc
  go_wp2_with fail
  go_end0
  exact ⟨rfl, F', (unhide HH).1, (unhide HH).2.behind (box1 w _)⟩

set_option maxRecDepth 100000 in
theorem lay10_any (b u : Nat) (s : ByteArray) (n m : Int) (F : Nat → Prop) (st : Wst) (w : World) (h : W w b F st) :
    Calls Tryz.prog 19 #[.pointer (some ⟨b, 0, none⟩), .agg #[.int .i64 10, .int .u64 u, .string s, .int .i64 n, .int .i64 m]] w fun e w' => e = .returned (.tuple #[]) ∧ ∃ F', W w' b F' { st with nm := s } ∧ Ch w w' F F' := by
  have H := hide h
  clear h
  go_enter Tryz.func19, Tryz.ntmps19
  go_wp2_with fail
  refine (wName_any b s F st _ ((unhide H).frame (box1 w _) (fun _ _ h => h))).mono ?_
  rintro e w' ⟨rfl, hW, hc⟩
  have HH := hide (And.intro hW hc)
  clear hW hc
  go_wp2_with fail
  go_end0
  exact ⟨rfl, F, (unhide HH).1, (unhide HH).2.behind (box1 w _)⟩

/-- What any call but Fail makes of a writer. -/
def Wst.layA (st : Wst) (p : Pt) (ea er : Addr) : Wst := if p.k = 5 then st.flt (p.u % 4294967296) er else if p.k = 10 then { st with nm := p.s } else st.lay p ea er

theorem layA_any (p : Pt) (b : Nat) (F : Nat → Prop) (st : Wst) (E : Nat → Addr) (er : Addr) (w : World) (hk : p.k ∈ kinds) (h9 : p.k ≠ 9) (hu : p.u < 18446744073709551616) (hn : p.n < 9223372036854775808) (hg : Gl w E) (hr : Rg w er) (h : W w b F st) (hs : p.s.size < 9223372036854775808) (hl : st.l.length + 8 + p.s.size ≤ 140737488355328) :
    Calls Tryz.prog 19 #[.pointer (some ⟨b, 0, none⟩), .agg #[.int .i64 p.k, .int .u64 p.u, .string p.s, .int .i64 p.n, .int .i64 p.m]] w fun e w' => e = .returned (.tuple #[]) ∧ ∃ F', W w' b F' (st.layA p (E 2) er) ∧ Ch w w' F F' := by
  by_cases h5 : p.k = 5
  · rw [Wst.layA, if_pos h5, h5]
    exact lay5_any b p.u p.s p.n p.m F st er w hr h (by omega)
  by_cases h10 : p.k = 10
  · rw [Wst.layA, if_neg h5, if_pos h10, h10]
    exact lay10_any b p.u p.s p.n p.m F st w h
  rw [Wst.layA, if_neg h5, if_neg h10]
  refine lay_any p b F st E er w ?_ hu hn hg hr h hs hl
  simp only [kinds, List.mem_cons, List.not_mem_nil, or_false] at hk
  omega
end Go.Proofs.YtikolmpgnpkdbaaGreatDoor
