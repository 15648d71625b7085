import Derived.Test.YtkpaoebpjcdglaaDoorPk1
namespace Go.Proofs.YtkpaoebpjcdglaaDoor
open Go.RowKit Go.Shelf

set_option linter.unusedSimpArgs false in
set_option maxHeartbeats 4000000 in
set_option maxRecDepth 100000 in
/-- Apply. -/
theorem apply_any (b : Nat) (s : RM) (q : RW) (M : Nat → Prop) (r : RQ) (F : List F5) (place : Nat) (w : World) (h : RsAt w b s q M) (ho : s.Ok) (hF : FdC w w.heap.size r.fv F) (hFl : F.length ≤ 140737488355328) (hv : ∀ f ∈ F, f.v < 4294967296 ∧ f.u < 256) (hg : GU w) :
    Calls Tryd.prog 12 #[.pointer (some ⟨b, 0, none⟩), r.v, .int .u32 (place : Nat)] w fun e w' => OpPost w b s q M r.cl r.nu (s.step r F place) e w' := by
  obtain ⟨W1, hW1⟩ : ∃ W1, W1 = (w.alloc (.cells r.cs 49)).alloc (.cells #[.int .u32 0, .int .u32 0, .int .u8 0, .int .u32 0, .int .u32 0, .slice none 0 0, .slice none 0 0] 36) := ⟨_, rfl⟩
  have hCB : CB w W1 w.heap.size r := by rw [hW1]; exact CB.new w r
  obtain ⟨xo, xc, hfv⟩ := hF.f.form
  have HAn : Hid (Calls Tryd.prog 13 #[.pointer (some ⟨b, 0, none⟩), r.v, .int .u32 (place : Nat)] W1 fun e w' => ∃ fo fn fc ho hn hc, e = .returned (.agg #[.int .u32 0, .int .u32 0, .int .u8 ((s.step r F place).2.co : Nat), .int .u32 ((s.step r F place).2.rc : Nat), .int .u32 ((s.step r F place).2.ve : Nat), .slice fo fn fc, .slice ho hn hc]) ∧ OpD W1 b s q M (s.step r F place) (.slice fo fn fc) (.slice ho hn hc) w') := by
    have hW := hCB.f
    refine (answer_any b s q M r F place W1 (h.fr hW) ho ⟨hF.f.fr hW, fun g o n c e h0 => Nat.lt_of_lt_of_le (hF.b g o n c e h0) hW.size, hF.c, hF.z⟩ hFl hv (hg.fr hW)).mono ?_
    rintro e w' ⟨fv, hv', he, hd⟩
    obtain ⟨⟨fo, fn, fc, rfl⟩, ho', hn, hc, rfl⟩ := hd.form
    exact ⟨fo, fn, fc, ho', hn, hc, he, hd⟩
  have HH := hide h
  have HC := hide hCB
  generalize s.step r F place = X at *
  simp only [RQ.v, RQ.cs] at *
  rw [hfv] at hW1 HAn ⊢
  clear hCB h hF hFl hv hg ho
  go_enter Tryd.func12, Tryd.ntmps12
  go_wp2_with fail
  rw [← hW1]
  clear hW1
  refine (unhide HAn).mono ?_
  rintro e w3 ⟨fo, fn, fc, ho, hn, hc, rfl, hd⟩
  have a3 := (OpD.kept (unhide HH) hd (B := w.heap.size + 1) (by omega) (lt_of_block (unhide HC).a)).trans (unhide HC).a
  have r3 := (OpD.kept (unhide HH) hd (B := w.heap.size) (by omega) (lt_of_block (unhide HC).r)).trans (unhide HC).r
  have hB := lt_of_block r3
  have hB1 := lt_of_block a3
  have hn1 : w3.heap.size ≠ w.heap.size := by omega
  have hn2 : w3.heap.size ≠ w.heap.size + 1 := by omega
  have q0 : w3.cell? ⟨w.heap.size, 0, none⟩ = some (.int .u32 (r.cl : Nat)) := by simp only [World.cell?, r3]; rfl
  have q1 : w3.cell? ⟨w.heap.size, 1, none⟩ = some (.int .u32 (r.nu : Nat)) := by simp only [World.cell?, r3]; rfl
  obtain ⟨e0, e1, e2, e3, e4, e5, e6, y0, y1, y2, y3, y4, y5, y6⟩ := ansc a3
  have HD3 := hide hd
  clear a3 r3 hd HAn
  go_wp2_with fail
  refine bodyPost_ret (results_cell_mid rfl _ _ (w.heap.size + 1) 0 [.int .u32 (r.cl : Nat), .int .u32 (r.nu : Nat), .int .u8 (X.2.co : Nat), .int .u32 (X.2.rc : Nat), .int .u32 (X.2.ve : Nat), .slice fo fn fc, .slice ho hn hc] _ rfl ?_ Tryd.underlying36 rfl (by kernel_rfl)) rfl ?_
  · intro j v hv
    rcases j with _ | _ | _ | _ | _ | _ | _ | j
    · simp at hv; subst hv; go_simp
    · simp at hv; subst hv; go_simp
    · simp at hv; subst hv; go_simp
    · simp at hv; subst hv; go_simp
    · simp at hv; subst hv; go_simp
    · simp at hv; subst hv; go_simp
    · simp at hv; subst hv; go_simp
    · simp at hv
  · exact ⟨_, _, rfl, OpD.out (unhide HH) (unhide HC).f (B := w.heap.size + 1) (by omega) (lt_of_block (unhide HC).a) (unhide HD3) ((set7_fr _ _ _ _ _ _ _ _ _).alloc _)⟩
end Go.Proofs.YtkpaoebpjcdglaaDoor

namespace Go.Proofs.YtkpaoebpjcdglaaDoor
open Go.RowKit Go.Shelf

/-- A request's ten cells. -/
def R10 (w : World) (g p : Nat) (r : RQ) : Prop := w.cell? ⟨g, p, none⟩ = some (.int .u32 (r.cl : Nat)) ∧ w.cell? ⟨g, p + 1, none⟩ = some (.int .u32 (r.nu : Nat)) ∧ w.cell? ⟨g, p + 2, none⟩ = some (.int .u32 (r.ac : Nat)) ∧ w.cell? ⟨g, p + 3, none⟩ = some (.int .u8 (r.op : Nat)) ∧ w.cell? ⟨g, p + 4, none⟩ = some (.int .u32 (r.rc : Nat)) ∧ w.cell? ⟨g, p + 5, none⟩ = some (.int .u32 (r.ve : Nat)) ∧ w.cell? ⟨g, p + 6, none⟩ = some (.int .u32 (r.wa : Nat)) ∧ w.cell? ⟨g, p + 7, none⟩ = some (.int .u32 (r.ow : Nat)) ∧ w.cell? ⟨g, p + 8, none⟩ = some r.fv ∧ w.cell? ⟨g, p + 9, none⟩ = some (.string r.rs)
theorem R10.frS {w w' : World} {g p : Nat} {r : RQ} {S : Nat → Prop} (h : R10 w g p r) (hf : Fr S w w') (hS : ¬ S g) : R10 w' g p r := by
  obtain ⟨h0, h1, h2, h3, h4, h5, h6, h7, h8, h9⟩ := h
  have hg : g < w.heap.size := lt_of_cell h0
  exact ⟨(hf.cell (p := ⟨g, _, none⟩) hg hS).trans h0, (hf.cell (p := ⟨g, _, none⟩) hg hS).trans h1, (hf.cell (p := ⟨g, _, none⟩) hg hS).trans h2, (hf.cell (p := ⟨g, _, none⟩) hg hS).trans h3, (hf.cell (p := ⟨g, _, none⟩) hg hS).trans h4, (hf.cell (p := ⟨g, _, none⟩) hg hS).trans h5, (hf.cell (p := ⟨g, _, none⟩) hg hS).trans h6, (hf.cell (p := ⟨g, _, none⟩) hg hS).trans h7, (hf.cell (p := ⟨g, _, none⟩) hg hS).trans h8, (hf.cell (p := ⟨g, _, none⟩) hg hS).trans h9⟩
/-- Requests, with their fields, that may be read. -/
structure Rqs (w : World) (x : Value) (l : List (RQ × List F5)) : Prop where
  f : (∃ a c, x = .slice a 0 c ∧ l = []) ∨ ∃ g o c, x = .slice (some ⟨g, o, none⟩) l.length c ∧ ∀ j (h : j < l.length), R10 w g (o + j * 10) l[j].1
  d : ∀ p ∈ l, FdC w w.heap.size p.1.fv p.2
theorem FdC.frF {w w' : World} {x : Value} {l : List F5} (h : FdC w w.heap.size x l) (hf : Fr (fun _ => False) w w') : FdC w' w'.heap.size x l := ⟨h.f.fr hf, fun g o n c e h0 => Nat.lt_of_lt_of_le (h.b g o n c e h0) hf.size, h.c, h.z⟩
theorem Rqs.fr {w w' : World} {x : Value} {l : List (RQ × List F5)} (h : Rqs w x l) (hf : Fr (fun _ => False) w w') : Rqs w' x l := by
  refine ⟨?_, fun p hp => (h.d p hp).frF hf⟩
  rcases h.f with h1 | ⟨g, o, c, h1, h2⟩
  · exact .inl h1
  · exact .inr ⟨g, o, c, h1, fun j hj => (h2 j hj).frS hf (fun h => h)⟩
theorem Rqs.form {w : World} {x : Value} {l : List (RQ × List F5)} (h : Rqs w x l) : ∃ xo xc, x = .slice xo l.length xc := by
  rcases h.f with ⟨a, c, rfl, rfl⟩ | ⟨g, o, c, rfl, _⟩ <;> exact ⟨_, _, rfl⟩
theorem Rqs.at_ {w : World} {xo : Option Addr} {n c : Nat} {l : List (RQ × List F5)} (h : Rqs w (.slice xo n c) l) (j : Nat) (hj : j < l.length) : ∃ g o, xo = some ⟨g, o, none⟩ ∧ R10 w g (o + j * 10) l[j].1 := by
  rcases h.f with ⟨_, _, _, rfl⟩ | ⟨g, o, c', e, h2⟩
  · simp at hj
  · simp only [Value.slice.injEq] at e
    obtain ⟨rfl, _, _⟩ := e
    exact ⟨g, o, rfl, h2 j hj⟩
/-- The staff of the examples. -/
def kn : List P3 := [⟨1, 1, 7⟩, ⟨2, 2, 7⟩, ⟨3, 3, 7⟩, ⟨4, 3, 8⟩, ⟨5, 4, 0⟩, ⟨6, 5, 0⟩]
set_option maxHeartbeats 2000000 in
set_option maxRecDepth 100000 in
theorem known_any (w : World) : Calls Tryd.prog 6 #[] w fun e w' => ∃ ao, e = .returned (.slice (some ao) 6 6) ∧ Stf w' (.slice (some ao) 6 6) kn ∧ Fr (fun _ => False) w w' := by
  go_enter Tryd.func6, Tryd.ntmps6
  go_wp2_with fail
  go_ret
  refine ⟨_, rfl, .inr ⟨w.heap.size, 0, 6, rfl, ?_⟩, (Fr.refl _ _).alloc _⟩
  intro j hj
  have hj6 : j < 6 := hj
  simp only [World.cell?_alloc_at _ _ _ _ rfl]
  match j, hj6 with
  | 0, _ => exact ⟨rfl, rfl, rfl⟩
  | 1, _ => exact ⟨rfl, rfl, rfl⟩
  | 2, _ => exact ⟨rfl, rfl, rfl⟩
  | 3, _ => exact ⟨rfl, rfl, rfl⟩
  | 4, _ => exact ⟨rfl, rfl, rfl⟩
  | 5, _ => exact ⟨rfl, rfl, rfl⟩
def fT (s : ByteArray) : F5 := ⟨⟨#[110, 97, 109, 101]⟩, 1, s, 0, 0⟩
def fQ (v : Nat) : F5 := ⟨⟨#[116, 101, 109, 112]⟩, 2, ⟨#[]⟩, v, 11⟩
def fG : F5 := ⟨⟨#[110, 97, 109, 101]⟩, 3, ⟨#[]⟩, 0, 0⟩
def f8 : F5 := ⟨⟨#[116, 101, 109, 112]⟩, 2, ⟨#[]⟩, 1084227584, 8⟩
theorem range5 {W : World} {b : Nat} {f : F5} (hb : W.heap[b]? = some (.cells f.cs 39)) : W.rangeAt b 0 [.string f.n, .int .u8 (f.k : Nat), .string f.t, .float .f32 f.v, .int .u8 (f.u : Nat)] := by
  intro j v hv
  simp only [World.cell?, hb]
  rcases j with _ | _ | _ | _ | _ | j <;> simp at hv <;> subst hv <;> rfl
set_option maxRecDepth 100000 in
theorem fq_any (v : Nat) (w : World) : Calls Tryd.prog 8 #[.float .f32 v] w fun e w' => e = .returned (.agg #[.string ⟨#[116, 101, 109, 112]⟩, .int .u8 2, .string ⟨#[]⟩, .float .f32 v, .int .u8 11]) ∧ Fr (fun _ => False) w w' := by
  go_enter Tryd.func8, Tryd.ntmps8
  go_wp2_with fail
  refine bodyPost_ret (results_cell_mid rfl _ _ w.heap.size 0 [.string ⟨#[116, 101, 109, 112]⟩, .int .u8 2, .string ⟨#[]⟩, .float .f32 v, .int .u8 11] _ rfl ?_ Tryd.underlying39 rfl (by kernel_rfl)) rfl ?_
  · exact range_new w _ _ _ rfl
  · exact ⟨rfl, box1 w _⟩
set_option maxRecDepth 100000 in
theorem ft_any (s : ByteArray) (w : World) : Calls Tryd.prog 9 #[.string s] w fun e w' => e = .returned (.agg #[.string ⟨#[110, 97, 109, 101]⟩, .int .u8 1, .string s, .float .f32 0, .int .u8 0]) ∧ Fr (fun _ => False) w w' := by
  go_enter Tryd.func9, Tryd.ntmps9
  go_wp2_with fail
  refine bodyPost_ret (results_cell_mid rfl _ _ w.heap.size 0 [.string ⟨#[110, 97, 109, 101]⟩, .int .u8 1, .string s, .float .f32 0, .int .u8 0] _ rfl ?_ Tryd.underlying39 rfl (by kernel_rfl)) rfl ?_
  · exact range_new w _ _ _ rfl
  · exact ⟨rfl, box1 w _⟩
/-- The requests of the examples; their fields lie in the blocks z0 to z5. -/
def stL (z0 z1 z2 z3 z4 z5 : Nat) : List (RQ × List F5) := [(⟨0, 0, 1, 1, 0, 0, 7, 6, .slice (some ⟨z0, 0, none⟩) 1 1, ⟨#[]⟩⟩, [fT ⟨#[65, 100, 97]⟩]),
  (⟨0, 0, 2, 2, 1, 1, 0, 0, .slice (some ⟨z1, 0, none⟩) 1 1, ⟨#[]⟩⟩, [fQ 1108606976]),
  (⟨0, 0, 1, 2, 1, 2, 0, 0, .slice (some ⟨z2, 0, none⟩) 1 1, ⟨#[]⟩⟩, [fQ 1108869120]),
  (⟨0, 0, 3, 2, 1, 1, 0, 0, .slice (some ⟨z3, 0, none⟩) 1 1, ⟨#[]⟩⟩, [fQ 1109131264]),
  (⟨0, 0, 3, 2, 1, 2, 0, 0, .slice (some ⟨z4, 0, none⟩) 2 2, ⟨#[]⟩⟩, [fG, fQ 1109131264]),
  (⟨0, 0, 6, 3, 1, 0, 0, 0, .slice none 0 0, ⟨#[]⟩⟩, []),
  (⟨0, 0, 6, 3, 1, 2, 0, 0, .slice none 0 0, ⟨#[]⟩⟩, []),
  (⟨0, 0, 6, 3, 1, 9, 0, 0, .slice none 0 0, ⟨#[]⟩⟩, []),
  (⟨0, 0, 6, 6, 1, 1, 0, 0, .slice none 0 0, ⟨#[]⟩⟩, []),
  (⟨0, 0, 2, 3, 1, 0, 0, 0, .slice none 0 0, ⟨#[]⟩⟩, []),
  (⟨0, 0, 4, 7, 1, 0, 0, 0, .slice none 0 0, ⟨#[104, 101, 97, 114, 116]⟩⟩, []),
  (⟨0, 0, 4, 3, 1, 1, 0, 0, .slice none 0 0, ⟨#[]⟩⟩, []),
  (⟨0, 0, 6, 6, 1, 1, 0, 0, .slice none 0 0, ⟨#[]⟩⟩, []),
  (⟨0, 0, 4, 3, 1, 0, 0, 0, .slice none 0 0, ⟨#[]⟩⟩, []),
  (⟨0, 0, 3, 4, 1, 1, 0, 0, .slice none 0 0, ⟨#[]⟩⟩, []),
  (⟨0, 0, 3, 3, 1, 1, 0, 0, .slice none 0 0, ⟨#[]⟩⟩, []),
  (⟨0, 0, 5, 5, 1, 0, 0, 0, .slice none 0 0, ⟨#[]⟩⟩, []),
  (⟨0, 0, 3, 2, 1, 3, 0, 0, .slice (some ⟨z5, 0, none⟩) 1 1, ⟨#[]⟩⟩, [f8]),
  (⟨0, 0, 9, 3, 1, 0, 0, 0, .slice none 0 0, ⟨#[]⟩⟩, []),
  (⟨0, 0, 3, 3, 2, 0, 0, 0, .slice none 0 0, ⟨#[]⟩⟩, [])]
theorem lit_fdc {w : World} {z n : Nat} {l : List F5} {cs : Array Value} (hb : w.heap[z]? = some (.cells cs 39)) (hc : cs.toList = fcells l) (hn : l.length = n) : FdC w w.heap.size (.slice (some ⟨z, 0, none⟩) n n) l := by
  subst hn
  refine ⟨.inr ⟨z, 0, l.length, rfl, fun j hj => ?_⟩, fun g o n c e _ => by cases e; exact lt_of_block hb, fun xo n c e => by cases e; exact Nat.le_refl _, fun n c e => by cases e⟩
  have ha := fcells_at l j hj
  rw [← hc] at ha
  simp only [Nat.zero_add]
  obtain ⟨a0, a1, a2, a3, a4⟩ := ha
  simp only [Array.getElem?_toList] at a0 a1 a2 a3 a4
  simp only [World.cell?, hb]
  exact ⟨a0, a1, a2, a3, a4⟩
theorem nil_fdc {w : World} : FdC w w.heap.size (.slice none 0 0) [] := ⟨fds_nil w, fun g o n c e _ => (by cases e), fun xo n c e => (by cases e; exact Nat.le_refl _), fun n c e => (by cases e; rfl)⟩
/-- The blocks of requests. -/
def Rqb (x : Value) (l : List (RQ × List F5)) (k : Nat) : Prop := (∃ o n c, x = .slice (some ⟨k, o, none⟩) n c ∧ 0 < n) ∨ ∃ p ∈ l, ∃ o n c, p.1.fv = .slice (some ⟨k, o, none⟩) n c ∧ 0 < n
theorem Rqs.frS {w w' : World} {x : Value} {l : List (RQ × List F5)} {S : Nat → Prop} (h : Rqs w x l) (hf : Fr S w w') (hS : ∀ k, Rqb x l k → ¬ S k) : Rqs w' x l := by
  refine ⟨?_, fun p hp => ⟨(h.d p hp).f.frS hf (fun g o n c e h0 => hS g (.inr ⟨p, hp, o, n, c, e, h0⟩)), fun g o n c e h0 => Nat.lt_of_lt_of_le ((h.d p hp).b g o n c e h0) hf.size, (h.d p hp).c, (h.d p hp).z⟩⟩
  rcases h.f with h1 | ⟨g, o, c, h1, h2⟩
  · exact .inl h1
  · exact .inr ⟨g, o, c, h1, fun j hj => (h2 j hj).frS hf (hS g (.inl ⟨o, _, c, h1, by omega⟩))⟩
theorem Rqs.lt {w : World} {x : Value} {l : List (RQ × List F5)} (h : Rqs w x l) {k : Nat} (hk : Rqb x l k) : k < w.heap.size := by
  rcases hk with ⟨o, n, c, e, h0⟩ | ⟨p, hp, o, n, c, e, h0⟩
  · subst e
    rcases h.f with ⟨a, c', e, _⟩ | ⟨g, o', c', e, h2⟩
    · cases e; omega
    · cases e
      exact lt_of_cell (h2 0 h0).1
  · exact (h.d p hp).b k o n c e h0
def rcells (l : List (RQ × List F5)) : List Value := l.flatMap fun p => p.1.cs.toList
theorem rcells_at (l : List (RQ × List F5)) : ∀ (j : Nat) (h : j < l.length) (k : Nat), k < 10 → (rcells l)[j * 10 + k]? = l[j].1.cs.toList[k]? := by
  induction l with
  | nil => intro j h; simp at h
  | cons p r ih =>
    intro j h k hk
    have e : rcells (p :: r) = p.1.cs.toList ++ rcells r := by simp [rcells]
    have hl : p.1.cs.toList.length = 10 := rfl
    rw [e]
    rcases j with _ | j
    · rw [List.getElem?_append_left (by omega)]
      simp
    · rw [List.getElem?_append_right (by omega), hl, show (j + 1) * 10 + k - 10 = j * 10 + k by omega, ih j (by simpa using h) k hk]
      rfl
theorem row_rqs {w : World} {z : Nat} {l : List (RQ × List F5)} {cs : Array Value} (hb : w.heap[z]? = some (.cells cs 49)) (hc : cs.toList = rcells l) (hd : ∀ p ∈ l, FdC w w.heap.size p.1.fv p.2) : Rqs w (.slice (some ⟨z, 0, none⟩) l.length l.length) l := by
  refine ⟨.inr ⟨z, 0, l.length, rfl, fun j hj => ?_⟩, hd⟩
  have ha : ∀ k, k < 10 → w.cell? ⟨z, j * 10 + k, none⟩ = l[j].1.cs.toList[k]? := fun k hk => by
    rw [← rcells_at l j hj k hk, ← hc]
    simp only [World.cell?, hb]
    simp
  rw [Nat.zero_add]
  exact ⟨ha 0 (by omega), ha 1 (by omega), ha 2 (by omega), ha 3 (by omega), ha 4 (by omega), ha 5 (by omega), ha 6 (by omega), ha 7 (by omega), ha 8 (by omega), ha 9 (by omega)⟩
end Go.Proofs.YtkpaoebpjcdglaaDoor

namespace Go.Proofs.YtkpaoebpjcdglaaDoor
open Go.RowKit Go.Shelf

theorem wp_bs {P : Program} {w : World} {op : Oper} {a : Act} {K : Act → World → Prop} {Q : Exit → Act → World → Prop} (v : Value) (w' : World) (hr : (execOp a.eval op).run P w = .ok (.value v) w') (h : K (a.put op.dst v) w') : op.wp P a w K Q := by
  unfold Oper.wp
  rw [hr]
  exact h
set_option maxHeartbeats 4000000 in
set_option maxRecDepth 100000 in
/-- story. -/
theorem story_any (w : World) : Calls Tryd.prog 7 #[] w fun e w' => ∃ g z0 z1 z2 z3 z4 z5, e = .returned (.slice (some ⟨g, 0, none⟩) 20 20) ∧ Rqs w' (.slice (some ⟨g, 0, none⟩) 20 20) (stL z0 z1 z2 z3 z4 z5) ∧ (∀ k, Rqb (.slice (some ⟨g, 0, none⟩) 20 20) (stL z0 z1 z2 z3 z4 z5) k → w.heap.size ≤ k) ∧ Fr (fun _ => False) w w' := by
  have HT := hide (ft_any ⟨#[65, 100, 97]⟩)
  have HQ := hide fq_any
  go_enter Tryd.func7, Tryd.ntmps7
  go_wp2_with fail
  refine ((unhide HT) _).mono ?_
  rintro e w0 ⟨rfl, hf0⟩
  have H0 := hide hf0
  have SZ0 := hide hf0.size
  clear hf0 HT
  go_wp2_with fail
  refine ((unhide HQ) _ _).mono ?_
  rintro e w1 ⟨rfl, hf1⟩
  have HZ0 := hide ((lit_fdc (l := [fT ⟨#[65, 100, 97]⟩]) (n := 1) (w := w0.alloc (.cells (fT ⟨#[65, 100, 97]⟩).cs 39)) Array.getElem?_push_size rfl rfl).frF hf1)
  have H1 := hide ((unhide H0).trans ((box1 w0 _).trans hf1 (fun _ _ h => h)) (fun _ _ h => h))
  have SZ1 := hide (unhide H1).size
  clear hf1 H0
  go_wp2_with fail
  refine ((unhide HQ) _ _).mono ?_
  rintro e w2 ⟨rfl, hf2⟩
  have HZ1 := hide ((lit_fdc (l := [fQ 1108606976]) (n := 1) (w := w1.alloc (.cells (fQ 1108606976).cs 39)) Array.getElem?_push_size rfl rfl).frF hf2)
  replace HZ0 := hide ((unhide HZ0).frF ((box1 w1 _).trans hf2 (fun _ _ h => h)))
  have H2 := hide ((unhide H1).trans ((box1 w1 _).trans hf2 (fun _ _ h => h)) (fun _ _ h => h))
  have SZ2 := hide (unhide H2).size
  clear hf2 H1
  go_wp2_with fail
  refine ((unhide HQ) _ _).mono ?_
  rintro e w3 ⟨rfl, hf3⟩
  have HZ2 := hide ((lit_fdc (l := [fQ 1108869120]) (n := 1) (w := w2.alloc (.cells (fQ 1108869120).cs 39)) Array.getElem?_push_size rfl rfl).frF hf3)
  replace HZ0 := hide ((unhide HZ0).frF ((box1 w2 _).trans hf3 (fun _ _ h => h)))
  replace HZ1 := hide ((unhide HZ1).frF ((box1 w2 _).trans hf3 (fun _ _ h => h)))
  have H3 := hide ((unhide H2).trans ((box1 w2 _).trans hf3 (fun _ _ h => h)) (fun _ _ h => h))
  have SZ3 := hide (unhide H3).size
  clear hf3 H2
  go_wp2_with fail
  refine ((unhide HQ) _ _).mono ?_
  rintro e w4 ⟨rfl, hf4⟩
  have HZ3 := hide ((lit_fdc (l := [fQ 1109131264]) (n := 1) (w := w3.alloc (.cells (fQ 1109131264).cs 39)) Array.getElem?_push_size rfl rfl).frF hf4)
  replace HZ0 := hide ((unhide HZ0).frF ((box1 w3 _).trans hf4 (fun _ _ h => h)))
  replace HZ1 := hide ((unhide HZ1).frF ((box1 w3 _).trans hf4 (fun _ _ h => h)))
  replace HZ2 := hide ((unhide HZ2).frF ((box1 w3 _).trans hf4 (fun _ _ h => h)))
  have H4 := hide ((unhide H3).trans ((box1 w3 _).trans hf4 (fun _ _ h => h)) (fun _ _ h => h))
  have SZ4 := hide (unhide H4).size
  clear hf4 H3
  clear HQ
  go_wp2_with fail
  generalize hW5 : w4.alloc (.cells #[.string ⟨#[110, 97, 109, 101]⟩, .int .u8 3, .string ⟨#[]⟩, .float .f32 0, .int .u8 0, .string ⟨#[116, 101, 109, 112]⟩, .int .u8 2, .string ⟨#[]⟩, .float .f32 1109131264, .int .u8 11] 39) = W5
  have hs5 : W5.heap.size = w4.heap.size + 1 := by rw [← hW5]; simp
  generalize hW6 : W5.alloc (.cells #[.string ⟨#[116, 101, 109, 112]⟩, .int .u8 2, .string ⟨#[]⟩, .float .f32 1084227584, .int .u8 8] 39) = W6
  have h45 : Fr (fun _ => False) w4 W5 := by rw [← hW5]; exact box1 w4 _
  have h56 : Fr (fun _ => False) W5 W6 := by rw [← hW6]; exact box1 W5 _
  have HZ4 := hide ((lit_fdc (l := [fG, fQ 1109131264]) (n := 2) (w := W5) (by rw [← hW5]; exact Array.getElem?_push_size) rfl rfl).frF h56)
  have HZ5 : Hid (FdC W6 W6.heap.size (.slice (some ⟨W5.heap.size, 0, none⟩) 1 1) [f8]) := lit_fdc (l := [f8]) (n := 1) (w := W6) (by rw [← hW6]; exact Array.getElem?_push_size) rfl rfl
  replace HZ0 := hide ((unhide HZ0).frF (h45.trans h56 (fun _ _ h => h)))
  replace HZ1 := hide ((unhide HZ1).frF (h45.trans h56 (fun _ _ h => h)))
  replace HZ2 := hide ((unhide HZ2).frF (h45.trans h56 (fun _ _ h => h)))
  replace HZ3 := hide ((unhide HZ3).frF (h45.trans h56 (fun _ _ h => h)))
  have H6 := hide ((unhide H4).trans (h45.trans h56 (fun _ _ h => h)) (fun _ _ h => h))
  rw [hs5] at HZ5
  clear hW5 hW6 h45 h56 hs5 H4
  generalize w0.heap.size = z0 at *
  generalize w1.heap.size = z1 at *
  generalize w2.heap.size = z2 at *
  generalize w3.heap.size = z3 at *
  generalize w4.heap.size = z4 at *
  refine wp_bs (.slice (some ⟨W6.heap.size, 0, none⟩) 20 20) (W6.alloc (.cells (rcells (stL z0 z1 z2 z3 z4 (z4 + 1))).toArray 49)) (by kernel_rfl) ?_
  rename_i K1 hK1 K2 hK2
  refine hK2 _ _ ?_
  simp only [Act.put, List.setIfInBounds_toArray, List.set_cons_zero, List.set_cons_succ]
  clear hK2
  go_wp2_with fail
  go_ret
  have hb := box1 W6 (.cells (rcells (stL z0 z1 z2 z3 z4 (z4 + 1))).toArray 49)
  refine ⟨W6.heap.size, z0, z1, z2, z3, z4, z4 + 1, rfl, row_rqs (l := stL z0 z1 z2 z3 z4 (z4 + 1)) Array.getElem?_push_size (by simp) (fun p hp => ?_), fun k hk => ?_, (unhide H6).trans hb (fun _ _ h => h)⟩
  rotate_left
  · have s0 := unhide SZ0
    have s1 := unhide SZ1
    have s2 := unhide SZ2
    have s3 := unhide SZ3
    have s4 := unhide SZ4
    have s6 := (unhide H6).size
    rcases hk with ⟨o, n, c, e, _⟩ | ⟨p, hp, o, n, c, e, _⟩
    · cases e; exact s6
    · simp only [stL, List.mem_cons, List.not_mem_nil, or_false] at hp
      rcases hp with rfl | rfl | rfl | rfl | rfl | rfl | rfl | rfl | rfl | rfl | rfl | rfl | rfl | rfl | rfl | rfl | rfl | rfl | rfl | rfl <;> cases e <;> omega
  simp only [stL, List.mem_cons, List.not_mem_nil, or_false] at hp
  rcases hp with rfl | rfl | rfl | rfl | rfl | rfl | rfl | rfl | rfl | rfl | rfl | rfl | rfl | rfl | rfl | rfl | rfl | rfl | rfl | rfl
  · exact (unhide HZ0).frF hb
  · exact (unhide HZ1).frF hb
  · exact (unhide HZ2).frF hb
  · exact (unhide HZ3).frF hb
  · exact (unhide HZ4).frF hb
  · exact nil_fdc
  · exact nil_fdc
  · exact nil_fdc
  · exact nil_fdc
  · exact nil_fdc
  · exact nil_fdc
  · exact nil_fdc
  · exact nil_fdc
  · exact nil_fdc
  · exact nil_fdc
  · exact nil_fdc
  · exact nil_fdc
  · exact (unhide HZ5).frF hb
  · exact nil_fdc
  · exact nil_fdc
end Go.Proofs.YtkpaoebpjcdglaaDoor

namespace Go.Proofs.YtkpaoebpjcdglaaDoor
open Go.RowKit Go.Shelf

/-- A State behind an operation. -/
theorem OpD.to {w w' : World} {b : Nat} {s : RM} {q : RW} {M : Nat → Prop} {x : RM × RA} {fv hv : Value} (h0 : RsAt w b s q M) (h : OpD w b s q M x fv hv w') : RsTo w w' b s x.1 q M ∧ OwF w' w.heap.size fv x.2.F ∧ OwS w' w.heap.size hv x.2.H := by
  rcases h with ⟨e, f1, f2, f3⟩ | ⟨e1, e2, rfl, rfl, hr⟩
  · refine ⟨?_, f2, f3⟩
    rw [e]
    exact ⟨q, M, h0.fr f1, fun k hk => .inl hk, fun k hk => .inl hk, f1.mono (fun _ _ h => h.elim)⟩
  · refine ⟨hr, ?_, ?_⟩
    · rw [e1]; exact World.ownsRow_nil _ _ _ _
    · rw [e2]; exact World.ownsRow_nil _ _ _ _
/-- A State whose own blocks lie among T. -/
def RsB (w : World) (b : Nat) (T : Nat → Prop) (s : RM) : Prop := ∃ q M, RsAt w b s q M ∧ (∀ k, M k → T k) ∧ ∀ k, q.uses s k → T k
theorem RsB.fr {w w' : World} {b : Nat} {T : Nat → Prop} {s : RM} (h : RsB w b T s) (hf : Fr (fun _ => False) w w') : RsB w' b T s := by
  obtain ⟨q, M, h1, h2⟩ := h
  exact ⟨q, M, h1.fr hf, h2⟩
theorem RsB.frS {w w' : World} {b : Nat} {T S : Nat → Prop} {s : RM} (h : RsB w b T s) (hf : Fr S w w') (hS : ∀ k, S k → ¬ T k) : RsB w' b T s := by
  obtain ⟨q, M, h1, h2, h3⟩ := h
  exact ⟨q, M, h1.frD hf (fun k hk hM => hS k hk (h2 k hM)) (fun k hk hU => hS k hk (h3 k hU)), h2, h3⟩
/-- Apply, of such a State: its own blocks grow by new ones. -/
theorem apply_B (b : Nat) (T : Nat → Prop) (s : RM) (r : RQ) (F : List F5) (place : Nat) (w : World) (h : RsB w b T s) (ho : s.Ok) (hF : FdC w w.heap.size r.fv F) (hFl : F.length ≤ 140737488355328) (hv : ∀ f ∈ F, f.v < 4294967296 ∧ f.u < 256) (hg : GU w) (X : RM × RA) (hX : s.step r F place = X) :
    Calls Tryd.prog 12 #[.pointer (some ⟨b, 0, none⟩), r.v, .int .u32 (place : Nat)] w fun e w' => ∃ fo fn fc ho hn hc, e = .returned (.agg #[.int .u32 (r.cl : Nat), .int .u32 (r.nu : Nat), .int .u8 (X.2.co : Nat), .int .u32 (X.2.rc : Nat), .int .u32 (X.2.ve : Nat), .slice fo fn fc, .slice ho hn hc]) ∧ RsB w' b (fun k => T k ∨ (w.heap.size ≤ k ∧ k < w'.heap.size)) X.1 ∧ OwF w' w.heap.size (.slice fo fn fc) X.2.F ∧ OwS w' w.heap.size (.slice ho hn hc) X.2.H ∧ Fr T w w' := by
  subst hX
  obtain ⟨q, M, h1, h2, h3⟩ := h
  refine (apply_any b s q M r F place w h1 ho hF hFl hv hg).mono ?_
  rintro e w' ⟨fv, hv', he, hd⟩
  obtain ⟨⟨fo, fn, fc, rfl⟩, ho', hn, hc, rfl⟩ := hd.form
  obtain ⟨⟨q', M', k1, k2, k3, k4⟩, o1, o2⟩ := hd.to h1
  exact ⟨fo, fn, fc, ho', hn, hc, he, ⟨q', M', k1, fun k hk => (k2 k hk).imp (h2 k) (fun h => ⟨h, k1.lt k hk⟩), fun k hk => (k3 k hk).imp (h3 k) (fun h => ⟨h, k1.usesLt hk⟩)⟩, o1, o2, k4.mono (fun k _ hk => h2 k hk)⟩
theorem GU.frT {w w' : World} {T : Nat → Prop} (h : GU w) (hf : Fr T w w') (h0 : ¬ T 0) : GU w' := fun i hi => (hf.cell (p := ⟨_, _, none⟩) (lt_of_cell (h i hi)) h0).trans (h i hi)
theorem records_B (b : Nat) (T : Nat → Prop) (s : RM) (w : World) (h : RsB w b T s) : Calls Tryd.prog 11 #[.pointer (some ⟨b, 0, none⟩)] w fun e w' => e = .returned (.int .i64 (s.C.length : Nat)) ∧ w' = w := by
  obtain ⟨q, M, h1, h2⟩ := h
  exact records_any b s q M w h1
set_option maxRecDepth 100000 in
/-- New, of a staff that is there. -/
theorem new_B (x : Value) (S : List P3) (w : World) (hx : Stf w x S) (hz : ∀ n c, x = .slice none n c → c = 0) (hl : S.length ≤ 1000000) :
    Calls Tryd.prog 10 #[x] w fun e w' => ∃ b, e = .returned (.pointer (some ⟨b, 0, none⟩)) ∧ RsB w' b (fun k => w.heap.size ≤ k ∧ k < w'.heap.size) ⟨S, []⟩ ∧ Fr (fun _ => False) w w' := by
  obtain ⟨v, w1, hr, ho, hf⟩ := app_stf w x S hx hz hl
  obtain ⟨xo, xc, rfl⟩ := hx.form
  obtain ⟨vo, vc, rfl⟩ := own_formX ho
  have HR := hide hr
  have H1 := hide (And.intro ho hf)
  clear hr ho hf hx hz
  go_enter Tryd.func10, Tryd.ntmps10
  go_wp2_with (at_builtin; refine wpList_app rfl _ _ 25 25 rfl _ _ _ rfl rfl (unhide HR) ?_; clear HR)
  go_ret
  have hbx := box1 w1 (.cells #[.slice vo S.length vc, .slice none 0 0] 54)
  have hs1 := (unhide H1).2.size
  have hown : ∀ g o n c, Value.slice vo S.length vc = .slice (some ⟨g, o, none⟩) n c → w.heap.size ≤ g ∧ g < w1.heap.size := fun g o n c e => (unhide H1).1.lt g (by rw [e]; rfl)
  refine ⟨w1.heap.size, rfl, ⟨⟨.slice vo S.length vc, .slice none 0 0, fun _ => .slice none 0 0, fun _ => .slice none 0 0, fun _ _ => .slice none 0 0⟩, fun k => k = w1.heap.size, ⟨Array.getElem?_push_size, (own_stf (unhide H1).1).fr hbx, fun g o n c e h0 hM => ?_, World.ownsRow_nil _ _ _ _, fun i c hc => (by simp at hc), fun i c hc => (by simp at hc), fun i c j v hc => (by simp at hc), rfl, fun g hg => (by cases hg), fun i c hc => (by simp at hc), fun i c hc => (by simp at hc), fun i j c d hc => (by simp at hc), fun i j c d hc => (by simp at hc), fun k hk => (by subst hk; simp)⟩, fun k hk => ?_, fun k hk => ?_⟩, (unhide H1).2.trans hbx (fun _ _ h => h)⟩
  · have := (hown g o n c e).2
    omega
  · subst hk
    exact ⟨hs1, by simp⟩
  · rcases hk with ⟨o, n, c, e, _⟩ | ⟨i, c, j, v, hc, _⟩
    · have := hown k o n c e
      exact ⟨this.1, by simp; omega⟩
    · simp at hc
theorem RsB.mono {w : World} {b : Nat} {T T' : Nat → Prop} {s : RM} (h : RsB w b T s) (hT : ∀ k, T k → T' k) : RsB w b T' s := by
  obtain ⟨q, M, h1, h2, h3⟩ := h
  exact ⟨q, M, h1, fun k hk => hT k (h2 k hk), fun k hk => hT k (h3 k hk)⟩
end Go.Proofs.YtkpaoebpjcdglaaDoor

namespace Go.Proofs.YtkpaoebpjcdglaaDoor
open Go.RowKit Go.Shelf

/-- Apply: what the State may write to does not hold the answer's lists. -/
theorem apply_C (b : Nat) (T : Nat → Prop) (s : RM) (r : RQ) (F : List F5) (place : Nat) (w : World) (h : RsB w b T s) (hT : ∀ k, T k → k < w.heap.size) (ho : s.Ok) (hF : FdC w w.heap.size r.fv F) (hFl : F.length ≤ 140737488355328) (hv : ∀ f ∈ F, f.v < 4294967296 ∧ f.u < 256) (hg : GU w) (X : RM × RA) (hX : s.step r F place = X) :
    Calls Tryd.prog 12 #[.pointer (some ⟨b, 0, none⟩), r.v, .int .u32 (place : Nat)] w fun e w' => ∃ fo fn fc ho hn hc, e = .returned (.agg #[.int .u32 (r.cl : Nat), .int .u32 (r.nu : Nat), .int .u8 (X.2.co : Nat), .int .u32 (X.2.rc : Nat), .int .u32 (X.2.ve : Nat), .slice fo fn fc, .slice ho hn hc]) ∧ OwF w' w.heap.size (.slice fo fn fc) X.2.F ∧ OwS w' w.heap.size (.slice ho hn hc) X.2.H ∧ Fr T w w' ∧ ∃ T', RsB w' b T' X.1 ∧ (∀ k, T' k → T k ∨ w.heap.size ≤ k) ∧ (∀ k, T' k → k < w'.heap.size) ∧ (∀ g, (Value.slice fo fn fc).ownBlock = some g → ¬ T' g) ∧ (∀ g, (Value.slice ho hn hc).ownBlock = some g → ¬ T' g) := by
  subst hX
  obtain ⟨q, M, h1, h2, h3⟩ := h
  refine (apply_any b s q M r F place w h1 ho hF hFl hv hg).mono ?_
  rintro e w' ⟨fv, hv', he, hd⟩
  obtain ⟨⟨fo, fn, fc, rfl⟩, ho', hn, hc, rfl⟩ := hd.form
  obtain ⟨hto, o1, o2⟩ := hd.to h1
  refine ⟨fo, fn, fc, ho', hn, hc, he, o1, o2, ?_, ?_⟩
  · obtain ⟨q', M', k1, k2, k3, k4⟩ := hto
    exact k4.mono (fun k _ hk => h2 k hk)
  · rcases hd with ⟨e1, f1, f2, f3⟩ | ⟨e1, e2, e3, e4, hr⟩
    · refine ⟨T, ?_, fun k hk => .inl hk, fun k hk => Nat.lt_of_lt_of_le (hT k hk) f1.size, fun g hg hT' => ?_, fun g hg hT' => ?_⟩
      · rw [e1]
        exact ⟨q, M, h1.fr f1, h2, h3⟩
      · have := (f2.lt g hg).1
        have := hT g hT'
        omega
      · have := (f3.lt g hg).1
        have := hT g hT'
        omega
    · obtain ⟨q', M', k1, k2, k3, k4⟩ := hr
      refine ⟨fun k => M' k ∨ q'.uses _ k, ⟨q', M', k1, fun k hk => .inl hk, fun k hk => .inr hk⟩, fun k hk => hk.elim (fun hk => (k2 k hk).imp (h2 k) id) (fun hk => (k3 k hk).imp (h3 k) id), fun k hk => hk.elim (k1.lt k) k1.usesLt, fun g hg => ?_, fun g hg => ?_⟩
      · rw [e3] at hg; cases hg
      · rw [e4] at hg; cases hg
/-- What requests, one after the other, are answered, and leave. -/
def runM : RM → Nat → List (RQ × List F5) → List RA
  | _, _, [] => []
  | s, i, p :: r => (s.step p.1 p.2 i).2 :: runM (s.step p.1 p.2 i).1 (i + 1) r
def endM : RM → Nat → List (RQ × List F5) → RM
  | s, _, [] => s
  | s, i, p :: r => endM (s.step p.1 p.2 i).1 (i + 1) r
theorem runM_snoc : ∀ (l : List (RQ × List F5)) (s : RM) (i : Nat) (p : RQ × List F5), runM s i (l ++ [p]) = runM s i l ++ [((endM s i l).step p.1 p.2 (i + l.length)).2] ∧ endM s i (l ++ [p]) = ((endM s i l).step p.1 p.2 (i + l.length)).1
  | [], s, i, p => ⟨rfl, rfl⟩
  | x :: r, s, i, p => by
    obtain ⟨h1, h2⟩ := runM_snoc r (s.step x.1 x.2 i).1 (i + 1) p
    refine ⟨?_, ?_⟩
    · show _ :: runM _ _ (r ++ [p]) = _
      rw [h1]
      simp only [runM, endM, List.length_cons, List.cons_append]
      rw [show i + 1 + r.length = i + (r.length + 1) by omega]
    · show endM _ _ (r ++ [p]) = _
      rw [h2]
      simp only [endM, List.length_cons]
      rw [show i + 1 + r.length = i + (r.length + 1) by omega]
theorem runM_len : ∀ (l : List (RQ × List F5)) (s : RM) (i : Nat), (runM s i l).length = l.length
  | [], _, _ => rfl
  | x :: r, s, i => by simp only [runM, List.length_cons, runM_len r]
/-- A request that may come. -/
def PGood (p : RQ × List F5) : Prop := p.1.ac < 4294967296 ∧ p.2.length ≤ 140737488355328 ∧ ∀ f ∈ p.2, f.v < 4294967296 ∧ f.u < 256
theorem endM_ok : ∀ (l : List (RQ × List F5)) (s : RM) (i : Nat), s.Ok → (∀ p ∈ l, PGood p) → (endM s i l).Ok
  | [], s, i, h, _ => h
  | x :: r, s, i, h, hp => endM_ok r _ _ (h.step x.1 x.2 i (hp x (by simp)).2.2 (hp x (by simp)).1) (fun p hp' => hp p (by simp [hp']))
def acells (l : List AN) : List Value := l.flatMap AN.cs
theorem acells_app (l : List AN) (a : AN) : acells (l ++ [a]) = acells l ++ a.cs := by simp [acells]
theorem acells_len (l : List AN) : (acells l).length = l.length * 7 := by
  induction l with
  | nil => rfl
  | cons a r ih =>
    have e : acells (a :: r) = a.cs ++ acells r := by simp [acells]
    rw [e, List.length_append, ih]
    simp only [AN.cs, List.length_cons, List.length_nil]
    omega
theorem acells_at (l : List AN) : ∀ (j : Nat) (h : j < l.length) (k : Nat), k < 7 → (acells l)[j * 7 + k]? = l[j].cs[k]? := by
  induction l with
  | nil => intro j h; simp at h
  | cons p r ih =>
    intro j h k hk
    have e : acells (p :: r) = p.cs ++ acells r := by simp [acells]
    have hl : p.cs.length = 7 := rfl
    rw [e]
    rcases j with _ | j
    · rw [List.getElem?_append_left (by omega)]
      simp
    · rw [List.getElem?_append_right (by omega), hl, show (j + 1) * 7 + k - 7 = j * 7 + k by omega, ih j (by simpa using h) k hk]
      rfl
theorem Tryd.infoAn : (Tryd.prog.info? 36).map (fun i => (i.zero, i.size, i.bytes)) = some (some (.agg #[.int .u32 0, .int .u32 0, .int .u8 0, .int .u32 0, .int .u32 0, .slice none 0 0, .slice none 0 0]), 7, 72) := by kernel_rfl
/-- append(answers, a). -/
theorem app_ans (w : World) (base x : Nat) (v : Value) (l : List AN) (a : AN) (h : w.ownsRow base 36 7 v l.length (acells l)) (hb : base ≤ w.heap.size) (hn : l.length ≤ 1000000000) (hx : w.heap[x]? = some (.cells a.cs.toArray 36)) (h1 : ∀ u ∈ a.cs, u.oneCell' = true) :
    ∃ ao cap w', (Builtin.append_ #[23, 23] 23 #[v, .slice (some ⟨x, 0, none⟩) 1 1]).run Tryd.prog w = .ok (.slice ao (l.length + 1) cap) w' ∧ w'.ownsRow base 36 7 (.slice ao (l.length + 1) cap) (l ++ [a]).length (acells (l ++ [a])) ∧ Fr (fun g => v.ownBlock = some g) w w' ∧ ∀ g, (Value.slice ao (l.length + 1) cap).ownBlock = some g → v.ownBlock = some g ∨ w.heap.size ≤ g := by
  obtain ⟨i0, hi, hz0, hz1, hz2⟩ := info_parts Tryd.infoAn
  obtain ⟨v', w', hr, h2, h3, _, h5⟩ := run_append_own_at (P := Tryd.prog) (w := w) base 23 23 36 i0 (.agg #[.int .u32 0, .int .u32 0, .int .u8 0, .int .u32 0, .int .u32 0, .slice none 0 0, .slice none 0 0]) 7 72 Tryd.underlying23 hi hz0 hz1 hz2 rfl (by decide) v l.length (acells l) h ⟨x, 0, none⟩ 1 1 a.cs rfl (fun j u hu => by
    rw [addr_add, Nat.zero_add]
    simp only [World.cell?, hx]
    simpa using hu) h1 (by simp only [maxLen]; omega) (by omega) hb
  obtain ⟨ao, cap, rfl⟩ := own_formX h2
  refine ⟨ao, cap, w', hr, by rw [acells_app, List.length_append, List.length_singleton]; exact h2, (Fr.refl _ _).grown h3 (fun g hg => .inl hg), fun g hg => ?_⟩
  rcases h5 with e | e
  · rw [e] at hg; exact .inl hg
  · rw [e] at hg; cases hg; exact .inr (Nat.le_refl _)
/-- An answer in memory is what is told; its lists are one's own, apart from T. -/
structure AnOk (w : World) (base : Nat) (T : Nat → Prop) (r : RQ) (a : AN) (x : RA) : Prop where
  e : a.cl = r.cl ∧ a.nu = r.nu ∧ a.co = x.co ∧ a.rc = x.rc ∧ a.ve = x.ve
  f : OwF w base a.fv x.F
  h : OwS w base a.hv x.H
  tf : ∀ g, a.fv.ownBlock = some g → ¬ T g
  th : ∀ g, a.hv.ownBlock = some g → ¬ T g
theorem AnOk.frS {w w' : World} {base : Nat} {T T' S : Nat → Prop} {r : RQ} {a : AN} {x : RA} (h : AnOk w base T r a x) (hf : Fr S w w') (hS : ∀ g, (a.fv.ownBlock = some g ∨ a.hv.ownBlock = some g) → ¬ S g) (hT : ∀ g, g < w.heap.size → T' g → T g) : AnOk w' base T' r a x :=
  ⟨h.e, ownsRow_of_block h.f (fun g hg => hf.block g (h.f.lt g hg).2 (hS g (.inl hg))), ownsRow_of_block h.h (fun g hg => hf.block g (h.h.lt g hg).2 (hS g (.inr hg))), fun g hg hT' => h.tf g hg (hT g (h.f.lt g hg).2 hT'), fun g hg hT' => h.th g hg (hT g (h.h.lt g hg).2 hT')⟩
end Go.Proofs.YtkpaoebpjcdglaaDoor

namespace Go.Proofs.YtkpaoebpjcdglaaDoor
open Go.RowKit Go.Shelf

/-- Answers of one's own, in memory, and what is told. -/
structure AnsL (w : World) (base : Nat) (T : Nat → Prop) (l : List (RQ × List F5)) (xs : List RA) (ov : Value) (al0 : List AN) : Prop where
  o : w.ownsRow base 36 7 ov al0.length (acells al0)
  ot : ∀ g, ov.ownBlock = some g → ¬ T g
  n : al0.length = xs.length
  a : ∀ (i : Nat) (a : AN), al0[i]? = some a → ∃ (p : RQ × List F5) (x : RA), l[i]? = some p ∧ xs[i]? = some x ∧ AnOk w base T p.1 a x
/-- What holds at Answers' loop. -/
structure AI (w wr : World) (b : Nat) (y : Value) (l : List (RQ × List F5)) (s0 : RM) (j : Nat) (ov : Value) (T : Nat → Prop) (al0 : List AN) : Prop where
  r : RsB wr b T (endM s0 0 (l.take j))
  t : ∀ k, T k → w.heap.size ≤ k ∧ k < wr.heap.size
  q : Rqs wr y l
  lo : ∀ k, Rqb y l k → k < w.heap.size
  u : GU wr
  uv : 0 < w.heap.size
  al : AnsL wr w.heap.size T l (runM s0 0 (l.take j)) ov al0
  f : Fr (fun _ => False) w wr
theorem AI.step {w wr W : World} {b j : Nat} {y ov : Value} {l : List (RQ × List F5)} {s0 : RM} {T : Nat → Prop} {al0 : List AN} (h : AI w wr b y l s0 j ov T al0) (hf : Fr (fun _ => False) wr W) : AI w W b y l s0 j ov T al0 :=
  ⟨h.r.fr hf, fun k hk => ⟨(h.t k hk).1, Nat.lt_of_lt_of_le (h.t k hk).2 hf.size⟩, h.q.fr hf, h.lo, h.u.fr hf, h.uv, ⟨ownsRow_of_block h.al.o (fun g hg => hf.block g (h.al.o.lt g hg).2 (fun h => h)), h.al.ot, h.al.n, fun i a ha => by
    obtain ⟨p, x, h1, h2, h3⟩ := h.al.a i a ha
    exact ⟨p, x, h1, h2, h3.frS hf (fun _ _ h => h) (fun _ _ h => h)⟩⟩, h.f.trans hf (fun _ _ h => h)⟩
/-- A request more is answered. -/
theorem AI.next {w W8 w3 : World} {b j : Nat} {y ov : Value} {l : List (RQ × List F5)} {s0 : RM} {T T' : Nat → Prop} {al0 : List AN} {p : RQ × List F5} {X : RM × RA} {fv hv : Value} (h : AI w W8 b y l s0 j ov T al0) (hp : l[j]? = some p) (hX : (endM s0 0 (l.take j)).step p.1 p.2 j = X) (hf : Fr T W8 w3)
    (hr : RsB w3 b T' X.1) (k2 : ∀ k, T' k → T k ∨ W8.heap.size ≤ k) (k3 : ∀ k, T' k → k < w3.heap.size) (hof : OwF w3 W8.heap.size fv X.2.F) (hos : OwS w3 W8.heap.size hv X.2.H) (tf : ∀ g, fv.ownBlock = some g → ¬ T' g) (th : ∀ g, hv.ownBlock = some g → ¬ T' g) (hfo : fv.oneCell' = true) (hho : hv.oneCell' = true) (hl : l.length ≤ 1000000000) :
    ∃ ao cap w7, (Builtin.append_ #[23, 23] 23 #[ov, .slice (some ⟨w3.heap.size, 0, none⟩) 1 1]).run Tryd.prog (w3.alloc (.cells (AN.mk p.1.cl p.1.nu X.2.co X.2.rc X.2.ve fv hv).cs.toArray 36)) = .ok (.slice ao (al0.length + 1) cap) w7 ∧ AI w w7 b y l s0 (j + 1) (.slice ao (al0.length + 1) cap) T' (al0 ++ [AN.mk p.1.cl p.1.nu X.2.co X.2.rc X.2.ve fv hv]) := by
  have hj : j < l.length := (List.getElem?_eq_some_iff.1 hp).1
  have hs := h.f.size
  have hs3 := hf.size
  have htk : (l.take j).length = j := by simp; omega
  have hasl : al0.length = j := by rw [h.al.n, runM_len, htk]
  have ho3 : w3.ownsRow w.heap.size 36 7 ov al0.length (acells al0) := ownsRow_of_block h.al.o (fun g hg => hf.block g (h.al.o.lt g hg).2 (h.al.ot g hg))
  obtain ⟨Wd, hWd⟩ : ∃ Wd, Wd = w3.alloc (.cells (AN.mk p.1.cl p.1.nu X.2.co X.2.rc X.2.ve fv hv).cs.toArray 36) := ⟨_, rfl⟩
  have f3d : Fr (fun _ => False) w3 Wd := by rw [hWd]; exact box1 w3 _
  have hod : Wd.ownsRow w.heap.size 36 7 ov al0.length (acells al0) := by rw [hWd]; exact ho3.alloc _
  obtain ⟨ao, cap, w7, hr7, ho7, hf7, hn7⟩ := app_ans Wd w.heap.size w3.heap.size ov al0 (AN.mk p.1.cl p.1.nu X.2.co X.2.rc X.2.ve fv hv) hod (by have := f3d.size; omega) (by omega) (by rw [hWd]; exact Array.getElem?_push_size) (fun u hu => by
    simp only [AN.cs, List.mem_cons, List.not_mem_nil, or_false] at hu
    rcases hu with rfl | rfl | rfl | rfl | rfl | rfl | rfl
    · rfl
    · rfl
    · rfl
    · rfl
    · rfl
    · exact hfo
    · exact hho)
  have hovn : ∀ g, ov.ownBlock = some g → g < W8.heap.size := fun g hg => (h.al.o.lt g hg).2
  have hov' : ∀ g, ov.ownBlock = some g → ¬ T' g := fun g hg hT => by
    rcases k2 g hT with h1 | h1
    · exact h.al.ot g hg h1
    · have := hovn g hg; omega
  have f37 : Fr (fun g => ov.ownBlock = some g) w3 w7 := (f3d.mono (fun _ _ h => h.elim)).trans hf7 (fun _ _ h => h)
  have hs7 := f37.size
  have hrun : runM s0 0 (l.take (j + 1)) = runM s0 0 (l.take j) ++ [X.2] ∧ endM s0 0 (l.take (j + 1)) = X.1 := by
    have e : l.take (j + 1) = l.take j ++ [p] := by rw [List.take_add_one, hp]; rfl
    obtain ⟨h1, h2⟩ := runM_snoc (l.take j) s0 0 p
    rw [htk, Nat.zero_add, hX] at h1 h2
    rw [e]
    exact ⟨h1, h2⟩
  refine ⟨ao, cap, w7, by rw [← hWd]; exact hr7, ⟨?_, fun k hk => ⟨?_, Nat.lt_of_lt_of_le (k3 k hk) hs7⟩, ?_, h.lo, ?_, h.uv, ⟨ho7, fun g hg hT => ?_, ?_, ?_⟩, ?_⟩⟩
  · rw [hrun.2]
    exact hr.frS f37 (fun k hk hT => hov' k hk hT)
  · rcases k2 k hk with h1 | h1
    · exact (h.t k h1).1
    · omega
  · refine (h.q.frS hf (fun k hk hT => by have := h.lo k hk; have := (h.t k hT).1; omega)).frS f37 (fun k hk hov => by have := h.lo k hk; have := (h.al.o.lt k hov).1; omega)
  · exact (h.u.frT hf (fun hT => by have := (h.t _ hT).1; have := h.uv; omega)).frT f37 (fun hov => by have := (h.al.o.lt _ hov).1; have := h.uv; omega)
  · rcases hn7 g hg with h1 | h1
    · exact hov' g h1 hT
    · have := k3 g hT
      have := f3d.size
      omega
  · rw [hrun.1]
    simp [h.al.n]
  · intro i a ha
    by_cases hi : i < al0.length
    · rw [List.getElem?_append_left hi] at ha
      obtain ⟨p', x, h1, h2, h3⟩ := h.al.a i a ha
      refine ⟨p', x, h1, ?_, ?_⟩
      · rw [hrun.1, List.getElem?_append_left (by rw [← h.al.n]; exact hi)]
        exact h2
      · have h4 := h3.frS (T' := T') hf (fun g hg => hg.elim (h3.tf g) (h3.th g)) (fun g hg hT => (k2 g hT).resolve_right (by omega))
        refine h4.frS f37 (fun g hg hov => ?_) (fun _ _ h => h)
        rcases hg with hg | hg
        · exact own_ne h4.f ho3 (by decide) g hg hov
        · exact own_ne h4.h ho3 (by decide) g hg hov
    · have hi2 : i = al0.length := by
        have := (List.getElem?_eq_some_iff.1 ha).1
        simp at this
        omega
      subst hi2
      rw [List.getElem?_append_right (Nat.le_refl _), Nat.sub_self] at ha
      simp at ha
      subst ha
      refine ⟨p, X.2, by rw [hasl]; exact hp, ?_, ?_⟩
      · rw [hrun.1, h.al.n, List.getElem?_append_right (Nat.le_refl _), Nat.sub_self]
        rfl
      · have hk : AnOk w3 w.heap.size T' p.1 (AN.mk p.1.cl p.1.nu X.2.co X.2.rc X.2.ve fv hv) X.2 := ⟨⟨rfl, rfl, rfl, rfl, rfl⟩, ownsRow_base hof hs, ownsRow_base hos hs, tf, th⟩
        refine hk.frS f37 (fun g hg hov => ?_) (fun _ _ h => h)
        rcases hg with hg | hg
        · exact own_ne hof ho3 (by decide) g hg hov
        · exact own_ne hos ho3 (by decide) g hg hov
  · exact (h.f.absorb hf (fun k hk => (h.t k hk).1)).absorb f37 (fun k hk => (h.al.o.lt k hk).1)
end Go.Proofs.YtkpaoebpjcdglaaDoor

