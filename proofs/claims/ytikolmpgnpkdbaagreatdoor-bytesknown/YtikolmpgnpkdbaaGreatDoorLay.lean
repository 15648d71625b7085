import Derived.Test.YtikolmpgnpkdbaaGreatDoorFit
import Derived.Test.YtikolmpgnpkdbaaGreatDoorAwl
import Derived.Lib.ConvBytes
namespace Go.Proofs.YtikolmpgnpkdbaaGreatDoor
open Go.RowKit

theorem Ch.behind {w wa w' : World} {F F' : Nat → Prop} (h : Ch wa w' F F') (ha : Fr (fun _ => False) w wa) : Ch w w' F F' :=
  ⟨(ha.mono (fun _ _ h => h.elim)).trans h.fr (fun _ _ h => h), fun k hk => by
    rcases h.new k hk with hx | hx
    · exact .inl hx
    · exact .inr (Nat.le_trans ha.size hx)⟩

set_option maxRecDepth 100000 in
theorem lay1_any (b u : Nat) (s : ByteArray) (n m : Int) (F : Nat → Prop) (st : Wst) (w : World) (h : W w b F st) (hl : st.l.length + 1 ≤ 140737488355328) :
    Calls Tryz.prog 19 #[.pointer (some ⟨b, 0, none⟩), .agg #[.int .i64 1, .int .u64 u, .string s, .int .i64 n, .int .i64 m]] w fun e w' => e = .returned (.tuple #[]) ∧ ∃ F', W w' b F' (st.putB (be 1 (u % 256))) ∧ Ch w w' F F' := by
  have H := hide h
  clear h
  have hw : IntKind.u8.wrap (u : Int) = ((u % 256 : Nat) : Int) := by rw [IntKind.wrap_u8]; omega
  go_enter Tryz.func19, Tryz.ntmps19
  go_wp2_with fail
  refine (wU8_any b (u % 256) F st _ (Nat.mod_lt _ (by decide)) ((unhide H).frame (box1 w _) (fun _ _ h => h)) hl).mono ?_
  rintro e w' ⟨rfl, F', hW, hc⟩
  have HH := hide (And.intro hW hc)
  clear hW hc
  go_wp2_with fail
  go_end0
  exact ⟨rfl, F', (unhide HH).1, (unhide HH).2.behind (box1 w _)⟩
set_option maxRecDepth 100000 in
theorem lay2_any (b u : Nat) (s : ByteArray) (n m : Int) (F : Nat → Prop) (st : Wst) (w : World) (h : W w b F st) (hl : st.l.length + 2 ≤ 140737488355328) :
    Calls Tryz.prog 19 #[.pointer (some ⟨b, 0, none⟩), .agg #[.int .i64 2, .int .u64 u, .string s, .int .i64 n, .int .i64 m]] w fun e w' => e = .returned (.tuple #[]) ∧ ∃ F', W w' b F' (st.putB (be 2 (u % 65536))) ∧ Ch w w' F F' := by
  have H := hide h
  clear h
  have hw : IntKind.u16.wrap (u : Int) = ((u % 65536 : Nat) : Int) := by rw [IntKind.wrap_u16]; omega
  go_enter Tryz.func19, Tryz.ntmps19
  go_wp2_with fail
  refine (wU16_any b (u % 65536) F st _ (Nat.mod_lt _ (by decide)) ((unhide H).frame (box1 w _) (fun _ _ h => h)) hl).mono ?_
  rintro e w' ⟨rfl, F', hW, hc⟩
  have HH := hide (And.intro hW hc)
  clear hW hc
  go_wp2_with fail
  go_end0
  exact ⟨rfl, F', (unhide HH).1, (unhide HH).2.behind (box1 w _)⟩
set_option maxRecDepth 100000 in
theorem lay4_any (b u : Nat) (s : ByteArray) (n m : Int) (F : Nat → Prop) (st : Wst) (w : World) (h : W w b F st) (hl : st.l.length + 4 ≤ 140737488355328) :
    Calls Tryz.prog 19 #[.pointer (some ⟨b, 0, none⟩), .agg #[.int .i64 4, .int .u64 u, .string s, .int .i64 n, .int .i64 m]] w fun e w' => e = .returned (.tuple #[]) ∧ ∃ F', W w' b F' (st.putB (be 4 (u % 4294967296))) ∧ Ch w w' F F' := by
  have H := hide h
  clear h
  have hw : IntKind.u32.wrap (u : Int) = ((u % 4294967296 : Nat) : Int) := by rw [IntKind.wrap_u32]; omega
  go_enter Tryz.func19, Tryz.ntmps19
  go_wp2_with fail
  refine (wU32_any b (u % 4294967296) F st _ (Nat.mod_lt _ (by decide)) ((unhide H).frame (box1 w _) (fun _ _ h => h)) hl).mono ?_
  rintro e w' ⟨rfl, F', hW, hc⟩
  have HH := hide (And.intro hW hc)
  clear hW hc
  go_wp2_with fail
  go_end0
  exact ⟨rfl, F', (unhide HH).1, (unhide HH).2.behind (box1 w _)⟩

set_option maxRecDepth 100000 in
theorem lay8_any (b u : Nat) (s : ByteArray) (n m : Int) (F : Nat → Prop) (st : Wst) (w : World) (hu : u < 18446744073709551616) (h : W w b F st) (hl : st.l.length + 8 ≤ 140737488355328) :
    Calls Tryz.prog 19 #[.pointer (some ⟨b, 0, none⟩), .agg #[.int .i64 8, .int .u64 u, .string s, .int .i64 n, .int .i64 m]] w fun e w' => e = .returned (.tuple #[]) ∧ ∃ F', W w' b F' (st.putB (be 8 u)) ∧ Ch w w' F F' := by
  have H := hide h
  clear h
  go_enter Tryz.func19, Tryz.ntmps19
  go_wp2_with fail
  refine (wU64_any b u F st _ hu ((unhide H).frame (box1 w _) (fun _ _ h => h)) hl).mono ?_
  rintro e w' ⟨rfl, F', hW, hc⟩
  have HH := hide (And.intro hW hc)
  clear hW hc
  go_wp2_with fail
  go_end0
  exact ⟨rfl, F', (unhide HH).1, (unhide HH).2.behind (box1 w _)⟩

set_option maxRecDepth 100000 in
theorem lay7_any (b u : Nat) (s : ByteArray) (n m : Int) (F : Nat → Prop) (st : Wst) (E : Nat → Addr) (er : Addr) (w : World) (hn : n < 9223372036854775808) (hg : Gl w E) (hr : Rg w er) (h : W w b F st) (hl : st.l.length + 4 ≤ 140737488355328) :
    Calls Tryz.prog 19 #[.pointer (some ⟨b, 0, none⟩), .agg #[.int .i64 7, .int .u64 u, .string s, .int .i64 n, .int .i64 m]] w fun e w' => e = .returned (.tuple #[]) ∧ ∃ F', W w' b F' (st.cnt n m (E 2) er) ∧ Ch w w' F F' := by
  have H := hide (And.intro h (And.intro hg hr))
  clear h hg hr
  go_enter Tryz.func19, Tryz.ntmps19
  go_wp2_with fail
  refine (wCount_any b n m F st E er _ ((unhide H).2.1.fr0 (box1 w _)) ((unhide H).2.2.fr0 (box1 w _)) ((unhide H).1.frame (box1 w _) (fun _ _ h => h)) hn hl).mono ?_
  rintro e w' ⟨rfl, F', hW, hc⟩
  have HH := hide (And.intro hW hc)
  clear hW hc
  go_wp2_with fail
  go_end0
  exact ⟨rfl, F', (unhide HH).1, (unhide HH).2.behind (box1 w _)⟩

def Wst.txt (st : Wst) (s : ByteArray) (m : Int) (ea : Addr) : Wst := if (s.size : Int) ≤ m ∧ s.size < 4294967296 then st.putB (be 4 s.size ++ bytesOf s) else st.fail ea

set_option maxRecDepth 100000 in
theorem lay6t_any (b u : Nat) (s : ByteArray) (n m : Int) (F : Nat → Prop) (st : Wst) (E : Nat → Addr) (w : World) (hn : (n.tmod 2 == 0) = true) (hg : Gl w E) (h : W w b F st) (hs : s.size < 9223372036854775808) (hl : st.l.length + 4 + s.size ≤ 140737488355328) :
    Calls Tryz.prog 19 #[.pointer (some ⟨b, 0, none⟩), .agg #[.int .i64 6, .int .u64 u, .string s, .int .i64 n, .int .i64 m]] w fun e w' => e = .returned (.tuple #[]) ∧ ∃ F', W w' b F' (st.txt s m (E 2)) ∧ Ch w w' F F' := by
  have H := hide (And.intro h hg)
  clear h hg
  go_enter Tryz.func19, Tryz.ntmps19
  go_wp2_with fail
  refine (wText_any b s m F st E _ ((unhide H).2.fr0 (box1 w _)) ((unhide H).1.frame (box1 w _) (fun _ _ h => h)) hs hl).mono ?_
  rintro e w' ⟨rfl, F', hW, hc⟩
  have HH := hide (And.intro hW hc)
  clear hW hc
  go_wp2_with fail
  go_end0
  exact ⟨rfl, F', (unhide HH).1, (unhide HH).2.behind (box1 w _)⟩

theorem conv_bytes (w : World) (s : ByteArray) : ∃ cap w', (convert 9 28 (.string s)).run Tryz.prog w = .ok (.slice (some ⟨w.heap.size, 0, none⟩) s.size cap) w' ∧ Src w' (.slice (some ⟨w.heap.size, 0, none⟩) s.size cap) (bytesOf s) ∧ Fr (fun _ => False) w w' := by
  refine ⟨_, Lib.bytesWorld w 5 s, Lib.run_convert_string_bytes w 9 28 5 s Tryz.underlying9 Tryz.underlying28 Tryz.underlying5, ?_, ?_⟩
  · refine .inr (.inl ⟨w.heap.size, 0, _, by rw [bytesOf_length], fun j v hv => ?_⟩)
    have hj : j < s.size := by
      have := (List.getElem?_eq_some_iff.1 hv).1
      simpa [cellsOf_length, bytesOf_length] using this
    rw [Nat.zero_add, Lib.bytesWorld_cell w _ s j hj, ← hv, cellsOf_bytesOf]
    have hj' : j < s.data.size := hj
    simp [Lib.strCells, List.getD, Array.getElem?_eq_getElem hj']
  · exact ⟨rfl, rfl, rfl, by rw [Lib.bytesWorld_size]; omega, fun k hk _ => Lib.bytesWorld_at_old w _ s k hk⟩

set_option maxRecDepth 100000 in
theorem lay6b_any (b u : Nat) (s : ByteArray) (n m : Int) (F : Nat → Prop) (st : Wst) (E : Nat → Addr) (w : World) (hn : (n.tmod 2 == 0) = false) (hg : Gl w E) (h : W w b F st) (hs : s.size < 9223372036854775808) (hl : st.l.length + 4 + s.size ≤ 140737488355328) :
    Calls Tryz.prog 19 #[.pointer (some ⟨b, 0, none⟩), .agg #[.int .i64 6, .int .u64 u, .string s, .int .i64 n, .int .i64 m]] w fun e w' => e = .returned (.tuple #[]) ∧ ∃ F', W w' b F' (st.txt s m (E 2)) ∧ Ch w w' F F' := by
  obtain ⟨cap, w2, hcv, hsrc, hf2⟩ := conv_bytes (w.alloc (.cells #[.int .i64 6, .int .u64 u, .string s, .int .i64 n, .int .i64 m] 26)) s
  have hf := (box1 w (.cells #[.int .i64 6, .int .u64 u, .string s, .int .i64 n, .int .i64 m] 26)).trans hf2 (fun _ _ h => h)
  have hc0 : w2.cell? ⟨w.heap.size, 4, none⟩ = some (.int .i64 m) := (hf2.cell (by simp) (fun h => h)).trans (by simp)
  have H := hide (And.intro h (And.intro hg (And.intro hsrc hf)))
  have hb := h.lt b h.fb
  clear h hg hsrc hf hf2
  simp only [World.size_alloc] at hcv
  go_enter Tryz.func19, Tryz.ntmps19
  go_wp2_with fail
  refine (wBytes_any b (.slice (some ⟨w.heap.size + 1, 0, none⟩) s.size cap) (bytesOf s) m F st E w2 ((unhide H).2.1.fr0 (unhide H).2.2.2) ((unhide H).1.frame (unhide H).2.2.2 (fun _ _ h => h)) (by simpa using (unhide H).2.2.1) (fun g o mm c e hk => by simp only [Value.slice.injEq, Option.some.injEq, Addr.mk.injEq] at e; have := (unhide H).1.lt g hk; omega) (by rw [bytesOf_length]; exact hs) (by rw [bytesOf_length]; exact hl)).mono ?_
  rw [bytesOf_length]
  rintro e w' ⟨rfl, F', hW, hc⟩
  have HH := hide (And.intro hW hc)
  clear hW hc
  go_wp2_with fail
  go_end0
  exact ⟨rfl, F', (unhide HH).1, (unhide HH).2.behind (unhide H).2.2.2⟩

/-- What a call makes of a writer (numbers, texts, counts). -/
def Wst.lay (st : Wst) (p : Pt) (ea er : Addr) : Wst :=
  if p.k = 1 then st.putB (be 1 (p.u % 256)) else if p.k = 2 then st.putB (be 2 (p.u % 65536)) else if p.k = 4 then st.putB (be 4 (p.u % 4294967296)) else if p.k = 8 then st.putB (be 8 p.u) else if p.k = 6 then st.txt p.s p.m ea else if p.k = 7 then st.cnt p.n p.m ea er else st

theorem lay_any (p : Pt) (b : Nat) (F : Nat → Prop) (st : Wst) (E : Nat → Addr) (er : Addr) (w : World) (hk : p.k = 1 ∨ p.k = 2 ∨ p.k = 4 ∨ p.k = 8 ∨ p.k = 6 ∨ p.k = 7) (hu : p.u < 18446744073709551616) (hn : p.n < 9223372036854775808) (hg : Gl w E) (hr : Rg w er) (h : W w b F st) (hs : p.s.size < 9223372036854775808) (hl : st.l.length + 8 + p.s.size ≤ 140737488355328) :
    Calls Tryz.prog 19 #[.pointer (some ⟨b, 0, none⟩), .agg #[.int .i64 p.k, .int .u64 p.u, .string p.s, .int .i64 p.n, .int .i64 p.m]] w fun e w' => e = .returned (.tuple #[]) ∧ ∃ F', W w' b F' (st.lay p (E 2) er) ∧ Ch w w' F F' := by
  obtain ⟨k, u, s, n, m⟩ := p
  simp only at hk hu hn hs hl ⊢
  rcases hk with rfl | rfl | rfl | rfl | rfl | rfl
  · exact lay1_any b u s n m F st w h (by omega)
  · exact lay2_any b u s n m F st w h (by omega)
  · exact lay4_any b u s n m F st w h (by omega)
  · exact lay8_any b u s n m F st w hu h (by omega)
  · cases hm : (n.tmod 2 == 0)
    · exact lay6b_any b u s n m F st E w hm hg h hs (by omega)
    · exact lay6t_any b u s n m F st E w hm hg h hs (by omega)
  · exact lay7_any b u s n m F st E er w hn hg hr h (by omega)
end Go.Proofs.YtikolmpgnpkdbaaGreatDoor
