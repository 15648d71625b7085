import Derived.Test.YthccbfgjekdiiaaDoorSfb
namespace Go.Proofs.YthccbfgjekdiiaaDoor
open Go.RowKit

/-- The hash of an entry, of two hashes. -/
def lf (i : Int) (e : List Nat) : List Nat := sm i (0 :: e)
def nd (i : Int) (a b : List Nat) : List Nat := sm i (1 :: (a ++ b))
theorem fl_all (ps : List (List Nat)) : fl ps ps.length = ps.flatten := by rw [fl, List.take_length]
theorem ob_lit1 (w : World) (v : Nat) (hv : v < 256) : OB w (w.alloc (.cells #[.int .u8 (v : Int)] 5)) (some ⟨w.heap.size, 0, none⟩) 1 [v] := by
  refine ⟨?_, (Fr.refl _ _).alloc _⟩
  have := World.ownsRow_lit (e := 5) (size := 1) w #[.int .u8 (v : Int)] 1 (Nat.le_refl _) (by simp only [maxLen]; omega) rfl
  have e : cellsOf [v] = [.int .u8 (v : Int)] := by simp [cellsOf, B, Nat.mod_eq_of_lt hv]
  rw [e]
  exact this
set_option maxRecDepth 100000 in
set_option maxHeartbeats 1000000 in
theorem join_any (mk : Nat) (x : Value) (vs : List Value) (ps : List (List Nat)) (w : World) (hp : Pcs w x vs ps) (hmk : mk < 256) (hB : ∀ p ∈ ps, p.length ≤ 16000000) (hn : ps.length ≤ 16) :
    Calls Tryd.prog 35 #[.int .u8 mk, x] w fun e w' => ∃ ao cp, e = .returned (.slice ao (mk :: ps.flatten).length cp) ∧ OB w w' ao cp (mk :: ps.flatten) := by
  obtain ⟨xo, xc, rfl⟩ := hp.form
  have HG := hide (And.intro hp (And.intro hB hn))
  clear hp hB hn
  generalize hN : ps.length = N at *
  obtain ⟨R, hR⟩ : ∃ R, mk :: ps.flatten = R := ⟨_, rfl⟩
  rw [hR]
  have HRR := hide hR
  clear hR
  go_enter Tryd.func35, Tryd.ntmps35
  go_wp2_with fail
  have hfb : ∀ k, k ≤ N → (fl ps k).length ≤ 16000000 * k := fun k => by
    induction k with
    | zero => intro _; simp [fl]
    | succ k ih =>
      intro hk
      have h1 := ih (by omega)
      have h2 := (unhide HG).2.1 (ps[k]'(by omega)) (List.getElem_mem _)
      rw [fl_succ ps k (by omega), List.length_append]
      omega
  have HF := hide hfb
  clear hfb
  go_loopw [5, 12] (fun v iv wr => ∃ (k : Nat) (ao : Option Addr) (cp n : Nat), k ≤ N ∧ iv = .int .i64 (k : Nat) ∧ v = .slice ao n cp ∧ n = (mk :: fl ps k).length ∧ OB w wr ao cp (mk :: fl ps k)) (fun _ iv _ => N - (intOf iv).toNat)
  case atStart => exact ⟨0, _, _, 1, Nat.zero_le _, rfl, rfl, rfl, ob_lit1 w mk hmk⟩
  case round =>
    obtain ⟨k, ao, cp, n, hk, rfl, rfl, hn, hO⟩ := hrel
    have hN16 := (unhide HG).2.2
    by_cases hlt : k < N
    · have hlt' : (k : Int) < (N : Int) := by omega
      have hkp : k < ps.length := by omega
      obtain ⟨g, o, v, rfl, hcell, hsrc, hcap, _, _⟩ := (unhide HG).1.cell hO.fr k hkp
      obtain ⟨vo, vc, rfl⟩ := hsrc.form
      have hb1 := (unhide HG).2.1 ps[k] (List.getElem_mem hkp)
      have hb2 := (unhide HF) k hk
      obtain ⟨a2, c2, w2, hr2, hO2⟩ := hO.app _ ps[k] hsrc (by rw [List.length_cons]; omega)
      rw [← hn] at hr2
      have e2 : (mk :: fl ps k) ++ ps[k] = mk :: fl ps (k + 1) := by rw [fl_succ ps k hkp]; rfl
      rw [e2] at hr2 hO2
      have HR2 := hide hr2
      have HO2 := hide hO2
      clear hr2 hO2 e2 hO hsrc hcap hn hb1 hb2
      go_wp2_with (at_builtin; refine wpList_app rfl _ _ 25 25 rfl _ _ _ rfl rfl (unhide HR2) ?_)
      exact ⟨⟨k + 1, _, _, _, by omega, by go_num, rfl, rfl, unhide HO2⟩, by simp [intOf]; omega⟩
    · have hlt' : ¬ (k : Int) < (N : Int) := by omega
      have hkN : k = N := by omega
      have e : mk :: fl ps k = R := by rw [hkN, ← hN, fl_all ps]; exact unhide HRR
      rw [e] at hO hn
      have HO2 := hide (And.intro hO hn)
      clear hO hn e hkN
      go_wp2_with fail
      go_ret
      exact ⟨ao, cp, by rw [← (unhide HO2).2]; rfl, (unhide HO2).1⟩
theorem cons_lt {mk : Nat} {l : List Nat} (h : mk < 256) (hl : ∀ v ∈ l, v < 256) : ∀ v ∈ mk :: l, v < 256 := fun v hv => by
  rcases List.mem_cons.1 hv with rfl | hv
  · exact h
  · exact hl v hv
theorem app_lt {a b : List Nat} (ha : ∀ v ∈ a, v < 256) (hb : ∀ v ∈ b, v < 256) : ∀ v ∈ a ++ b, v < 256 := fun v hv => by
  rcases List.mem_append.1 hv with h | h
  · exact ha v h
  · exact hb v h
theorem OB.lt {w wr : World} {xo : Option Addr} {cp : Nat} {l : List Nat} (h : OB w wr xo cp l) : ∀ g o n c, (Value.slice xo l.length cp) = .slice (some ⟨g, o, none⟩) n c → g < wr.heap.size := fun g o n c e => by
  simp only [Value.slice.injEq] at e
  obtain ⟨rfl, _⟩ := e
  exact (World.ownsRow.lt h.own g rfl).2
theorem OB.cap {w wr : World} {xo : Option Addr} {cp : Nat} {l : List Nat} (h : OB w wr xo cp l) : l.length ≤ cp := by
  rcases h.own.2 with ⟨e, e2⟩ | ⟨g, cap, cur, e, _, _, h3, _⟩
  · omega
  · simp only [Value.slice.injEq, true_and] at e
    rw [e.2]; exact h3
/-- What a slice that a call is handed must keep to. -/
structure Sl (w : World) (x : Value) (l : List Nat) : Prop where
  s : Src w x l
  cap : ∀ g n c, x = .slice g n c → n ≤ c
  lt : l = [] ∨ ∀ g o n c, x = .slice (some ⟨g, o, none⟩) n c → g < w.heap.size
  b : ∀ v ∈ l, v < 256
theorem Sl.fr0 {w w' : World} {x : Value} {l : List Nat} (h : Sl w x l) (hf : Fr (fun _ => False) w w') : Sl w' x l :=
  ⟨h.s.fr0 hf, h.cap, h.lt.imp id (fun hh g o n c e => Nat.lt_of_lt_of_le (hh g o n c e) hf.size), h.b⟩
theorem OB.sl {w wr : World} {xo : Option Addr} {cp : Nat} {l : List Nat} (h : OB w wr xo cp l) (hb : ∀ v ∈ l, v < 256) : Sl wr (.slice xo l.length cp) l :=
  ⟨h.src, fun _ _ _ e => by cases e; exact h.cap, .inr h.lt, hb⟩
theorem Sl.form {w : World} {x : Value} {l : List Nat} (h : Sl w x l) : ∃ xo xc, x = .slice xo l.length xc := h.s.form
theorem lf_lt (i : Int) (e : List Nat) : ∀ v ∈ lf i e, v < 256 := sm_lt i _
theorem nd_lt (i : Int) (a b : List Nat) : ∀ v ∈ nd i a b, v < 256 := sm_lt i _
end Go.Proofs.YthccbfgjekdiiaaDoor
