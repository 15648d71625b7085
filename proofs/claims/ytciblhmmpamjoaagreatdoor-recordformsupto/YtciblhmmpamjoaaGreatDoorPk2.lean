import Derived.Test.YtciblhmmpamjoaaGreatDoorPk1
import Derived.Test.YtciblhmmpamjoaaGreatDoorOcb
import Derived.Test.YtciblhmmpamjoaaGreatDoorOac
import Derived.BigQuiet
import Derived.Test.YtciblhmmpamjoaaGreatDoorObo
import Derived.Laws.StructEq
import Derived.Test.YtciblhmmpamjoaaGreatDoorOap
import Derived.Test.YtciblhmmpamjoaaGreatDoorCards
import Derived.Test.YtciblhmmpamjoaaGreatDoorTie
import Derived.WalkKit
import Derived.ProofKit
import Derived.OpenShut
import Derived.LaidLaws
import Derived.Deep.DeepHandedRow
import Derived.Deep.DeepWitnessRowRef
import Derived.Test.YtciblhmmpamjoaaGreatDoorRows
import Derived.SizedLaws
import Derived.JoinedCond
import Derived.Deep.Slices
import Derived.Test.YtciblhmmpamjoaaGreatDoorOcc
import Derived.Test.YtciblhmmpamjoaaGreatDoorOan
import Derived.Test.YtciblhmmpamjoaaGreatDoorOab
import Derived.Lib.Strings
import Derived.Laws.BitsAllLaws
import Derived.Test.YtciblhmmpamjoaaGreatDoorOai
namespace Go.Proofs.YtciblhmmpamjoaaGreatDoor
open Go.RowKit Go.Shelf

/-- A State behind an operation. -/
theorem OpD.to {w w' : World} {b : Nat} {s : RM} {q : RW} {M : Nat → Prop} {x : RM × RA} {fv hv : Value} (h0 : RsAt w b s q M) (h : OpD w b s q M x fv hv w') : RsTo w w' b s x.1 q M ∧ OwF w' w.heap.size fv x.2.F ∧ OwS w' w.heap.size hv x.2.H := by
  rcases h with ⟨e, f1, f2, f3⟩ | ⟨e1, e2, rfl, rfl, hr⟩
  · refine ⟨?_, f2, f3⟩
    rw [e]
    exact ⟨q, M, h0.fr f1, fun k hk => .inl hk, fun k hk => .inl hk, f1.mono (fun _ _ h => h.elim)⟩
  · refine ⟨hr, ?_, ?_⟩
    · rw [e1]; exact World.ownsRow_nil _ _ _ _
    · rw [e2]; exact World.ownsRow_nil _ _ _ _
/-- A State whose own blocks lie among T. -/
def RsB (w : World) (b : Nat) (T : Nat → Prop) (s : RM) : Prop := ∃ q M, RsAt w b s q M ∧ (∀ k, M k → T k) ∧ ∀ k, q.uses s k → T k
theorem RsB.fr {w w' : World} {b : Nat} {T : Nat → Prop} {s : RM} (h : RsB w b T s) (hf : Fr (fun _ => False) w w') : RsB w' b T s := by
  obtain ⟨q, M, h1, h2⟩ := h
  exact ⟨q, M, h1.fr hf, h2⟩
theorem RsB.frS {w w' : World} {b : Nat} {T S : Nat → Prop} {s : RM} (h : RsB w b T s) (hf : Fr S w w') (hS : ∀ k, S k → ¬ T k) : RsB w' b T s := by
  obtain ⟨q, M, h1, h2, h3⟩ := h
  exact ⟨q, M, h1.frD hf (fun k hk hM => hS k hk (h2 k hM)) (fun k hk hU => hS k hk (h3 k hU)), h2, h3⟩
/-- Apply, of such a State: its own blocks grow by new ones. -/
theorem apply_B (b : Nat) (T : Nat → Prop) (s : RM) (r : RQ) (F : List F5) (place : Nat) (w : World) (h : RsB w b T s) (ho : s.Ok) (hF : FdC w w.heap.size r.fv F) (hFl : F.length ≤ 140737488355328) (hv : ∀ f ∈ F, f.v < 4294967296 ∧ f.u < 256) (hg : GU w) (X : RM × RA) (hX : s.step r F place = X) :
    Calls Tryz.prog 15 #[.pointer (some ⟨b, 0, none⟩), r.v, .int .u32 (place : Nat)] w fun e w' => ∃ fo fn fc ho hn hc, e = .returned (.agg #[.int .u32 (r.cl : Nat), .int .u32 (r.nu : Nat), .int .u8 (X.2.co : Nat), .int .u32 (X.2.rc : Nat), .int .u32 (X.2.ve : Nat), .slice fo fn fc, .slice ho hn hc]) ∧ RsB w' b (fun k => T k ∨ (w.heap.size ≤ k ∧ k < w'.heap.size)) X.1 ∧ OwF w' w.heap.size (.slice fo fn fc) X.2.F ∧ OwS w' w.heap.size (.slice ho hn hc) X.2.H ∧ Fr T w w' := by
  subst hX
  obtain ⟨q, M, h1, h2, h3⟩ := h
  refine (apply_any b s q M r F place w h1 ho hF hFl hv hg).mono ?_
  rintro e w' ⟨fv, hv', he, hd⟩
  obtain ⟨⟨fo, fn, fc, rfl⟩, ho', hn, hc, rfl⟩ := hd.form
  obtain ⟨⟨q', M', k1, k2, k3, k4⟩, o1, o2⟩ := hd.to h1
  exact ⟨fo, fn, fc, ho', hn, hc, he, ⟨q', M', k1, fun k hk => (k2 k hk).imp (h2 k) (fun h => ⟨h, k1.lt k hk⟩), fun k hk => (k3 k hk).imp (h3 k) (fun h => ⟨h, k1.usesLt hk⟩)⟩, o1, o2, k4.mono (fun k _ hk => h2 k hk)⟩
theorem GU.frT {w w' : World} {T : Nat → Prop} (h : GU w) (hf : Fr T w w') (h0 : ¬ T 7) : GU w' := fun i hi => (hf.cell (p := ⟨_, _, none⟩) (lt_of_cell (h i hi)) h0).trans (h i hi)
theorem records_B (b : Nat) (T : Nat → Prop) (s : RM) (w : World) (h : RsB w b T s) : Calls Tryz.prog 19 #[.pointer (some ⟨b, 0, none⟩)] w fun e w' => e = .returned (.int .i64 (s.C.length : Nat)) ∧ w' = w := by
  obtain ⟨q, M, h1, h2⟩ := h
  exact records_any b s q M w h1
set_option maxRecDepth 100000 in
/-- New, of a staff that is there. -/
theorem new_B (x : Value) (S : List P3) (w : World) (hx : Stf w x S) (hz : ∀ n c, x = .slice none n c → c = 0) (hl : S.length ≤ 1000000) :
    Calls Tryz.prog 14 #[x] w fun e w' => ∃ b, e = .returned (.pointer (some ⟨b, 0, none⟩)) ∧ RsB w' b (fun k => w.heap.size ≤ k ∧ k < w'.heap.size) ⟨S, []⟩ ∧ Fr (fun _ => False) w w' := by
  obtain ⟨v, w1, hr, ho, hf⟩ := app_stf w x S hx hz hl
  obtain ⟨xo, xc, rfl⟩ := hx.form
  obtain ⟨vo, vc, rfl⟩ := own_formX ho
  have HR := hide hr
  have H1 := hide (And.intro ho hf)
  clear hr ho hf hx hz
  go_enter Tryz.func14, Tryz.ntmps14
  go_wp2_with (at_builtin; refine wpList_app rfl _ _ 32 32 rfl _ _ _ rfl rfl (unhide HR) ?_; clear HR)
  go_ret
  have hbx := box1 w1 (.cells #[.slice vo S.length vc, .slice none 0 0] 83)
  have hs1 := (unhide H1).2.size
  have hown : ∀ g o n c, Value.slice vo S.length vc = .slice (some ⟨g, o, none⟩) n c → w.heap.size ≤ g ∧ g < w1.heap.size := fun g o n c e => (unhide H1).1.lt g (by rw [e]; rfl)
  refine ⟨w1.heap.size, rfl, ⟨⟨.slice vo S.length vc, .slice none 0 0, fun _ => .slice none 0 0, fun _ => .slice none 0 0, fun _ _ => .slice none 0 0⟩, fun k => k = w1.heap.size, ⟨Array.getElem?_push_size, (own_stf (unhide H1).1).fr hbx, fun g o n c e h0 hM => ?_, World.ownsRow_nil _ _ _ _, fun i c hc => (by simp at hc), fun i c hc => (by simp at hc), fun i c j v hc => (by simp at hc), rfl, fun g hg => (by cases hg), fun i c hc => (by simp at hc), fun i c hc => (by simp at hc), fun i j c d hc => (by simp at hc), fun i j c d hc => (by simp at hc), fun k hk => (by subst hk; simp)⟩, fun k hk => ?_, fun k hk => ?_⟩, (unhide H1).2.trans hbx (fun _ _ h => h)⟩
  · have := (hown g o n c e).2
    omega
  · subst hk
    exact ⟨hs1, by simp⟩
  · rcases hk with ⟨o, n, c, e, _⟩ | ⟨i, c, j, v, hc, _⟩
    · have := hown k o n c e
      exact ⟨this.1, by simp; omega⟩
    · simp at hc
theorem RsB.mono {w : World} {b : Nat} {T T' : Nat → Prop} {s : RM} (h : RsB w b T s) (hT : ∀ k, T k → T' k) : RsB w b T' s := by
  obtain ⟨q, M, h1, h2, h3⟩ := h
  exact ⟨q, M, h1, fun k hk => hT k (h2 k hk), fun k hk => hT k (h3 k hk)⟩
end Go.Proofs.YtciblhmmpamjoaaGreatDoor

namespace Go.Proofs.YtciblhmmpamjoaaGreatDoor
open Go.RowKit Go.Shelf

/-- Apply: what the State may write to does not hold the answer's lists. -/
theorem apply_C (b : Nat) (T : Nat → Prop) (s : RM) (r : RQ) (F : List F5) (place : Nat) (w : World) (h : RsB w b T s) (hT : ∀ k, T k → k < w.heap.size) (ho : s.Ok) (hF : FdC w w.heap.size r.fv F) (hFl : F.length ≤ 140737488355328) (hv : ∀ f ∈ F, f.v < 4294967296 ∧ f.u < 256) (hg : GU w) (X : RM × RA) (hX : s.step r F place = X) :
    Calls Tryz.prog 15 #[.pointer (some ⟨b, 0, none⟩), r.v, .int .u32 (place : Nat)] w fun e w' => ∃ fo fn fc ho hn hc, e = .returned (.agg #[.int .u32 (r.cl : Nat), .int .u32 (r.nu : Nat), .int .u8 (X.2.co : Nat), .int .u32 (X.2.rc : Nat), .int .u32 (X.2.ve : Nat), .slice fo fn fc, .slice ho hn hc]) ∧ OwF w' w.heap.size (.slice fo fn fc) X.2.F ∧ OwS w' w.heap.size (.slice ho hn hc) X.2.H ∧ Fr T w w' ∧ ∃ T', RsB w' b T' X.1 ∧ (∀ k, T' k → T k ∨ w.heap.size ≤ k) ∧ (∀ k, T' k → k < w'.heap.size) ∧ (∀ g, (Value.slice fo fn fc).ownBlock = some g → ¬ T' g) ∧ (∀ g, (Value.slice ho hn hc).ownBlock = some g → ¬ T' g) := by
  subst hX
  obtain ⟨q, M, h1, h2, h3⟩ := h
  refine (apply_any b s q M r F place w h1 ho hF hFl hv hg).mono ?_
  rintro e w' ⟨fv, hv', he, hd⟩
  obtain ⟨⟨fo, fn, fc, rfl⟩, ho', hn, hc, rfl⟩ := hd.form
  obtain ⟨hto, o1, o2⟩ := hd.to h1
  refine ⟨fo, fn, fc, ho', hn, hc, he, o1, o2, ?_, ?_⟩
  · obtain ⟨q', M', k1, k2, k3, k4⟩ := hto
    exact k4.mono (fun k _ hk => h2 k hk)
  · rcases hd with ⟨e1, f1, f2, f3⟩ | ⟨e1, e2, e3, e4, hr⟩
    · refine ⟨T, ?_, fun k hk => .inl hk, fun k hk => Nat.lt_of_lt_of_le (hT k hk) f1.size, fun g hg hT' => ?_, fun g hg hT' => ?_⟩
      · rw [e1]
        exact ⟨q, M, h1.fr f1, h2, h3⟩
      · have := (f2.lt g hg).1
        have := hT g hT'
        omega
      · have := (f3.lt g hg).1
        have := hT g hT'
        omega
    · obtain ⟨q', M', k1, k2, k3, k4⟩ := hr
      refine ⟨fun k => M' k ∨ q'.uses _ k, ⟨q', M', k1, fun k hk => .inl hk, fun k hk => .inr hk⟩, fun k hk => hk.elim (fun hk => (k2 k hk).imp (h2 k) id) (fun hk => (k3 k hk).imp (h3 k) id), fun k hk => hk.elim (k1.lt k) k1.usesLt, fun g hg => ?_, fun g hg => ?_⟩
      · rw [e3] at hg; cases hg
      · rw [e4] at hg; cases hg
/-- What requests, one after the other, are answered, and leave. -/
def runM : RM → Nat → List (RQ × List F5) → List RA
  | _, _, [] => []
  | s, i, p :: r => (s.step p.1 p.2 i).2 :: runM (s.step p.1 p.2 i).1 (i + 1) r
def endM : RM → Nat → List (RQ × List F5) → RM
  | s, _, [] => s
  | s, i, p :: r => endM (s.step p.1 p.2 i).1 (i + 1) r
theorem runM_snoc : ∀ (l : List (RQ × List F5)) (s : RM) (i : Nat) (p : RQ × List F5), runM s i (l ++ [p]) = runM s i l ++ [((endM s i l).step p.1 p.2 (i + l.length)).2] ∧ endM s i (l ++ [p]) = ((endM s i l).step p.1 p.2 (i + l.length)).1
  | [], s, i, p => ⟨rfl, rfl⟩
  | x :: r, s, i, p => by
    obtain ⟨h1, h2⟩ := runM_snoc r (s.step x.1 x.2 i).1 (i + 1) p
    refine ⟨?_, ?_⟩
    · show _ :: runM _ _ (r ++ [p]) = _
      rw [h1]
      simp only [runM, endM, List.length_cons, List.cons_append]
      rw [show i + 1 + r.length = i + (r.length + 1) by omega]
    · show endM _ _ (r ++ [p]) = _
      rw [h2]
      simp only [endM, List.length_cons]
      rw [show i + 1 + r.length = i + (r.length + 1) by omega]
theorem runM_len : ∀ (l : List (RQ × List F5)) (s : RM) (i : Nat), (runM s i l).length = l.length
  | [], _, _ => rfl
  | x :: r, s, i => by simp only [runM, List.length_cons, runM_len r]
/-- A request that may come. -/
def PGood (p : RQ × List F5) : Prop := p.1.ac < 4294967296 ∧ p.2.length ≤ 140737488355328 ∧ ∀ f ∈ p.2, f.v < 4294967296 ∧ f.u < 256
theorem endM_ok : ∀ (l : List (RQ × List F5)) (s : RM) (i : Nat), s.Ok → (∀ p ∈ l, PGood p) → (endM s i l).Ok
  | [], s, i, h, _ => h
  | x :: r, s, i, h, hp => endM_ok r _ _ (h.step x.1 x.2 i (hp x (by simp)).2.2 (hp x (by simp)).1) (fun p hp' => hp p (by simp [hp']))
def acells (l : List AN) : List Value := l.flatMap AN.cs
theorem acells_app (l : List AN) (a : AN) : acells (l ++ [a]) = acells l ++ a.cs := by simp [acells]
theorem acells_len (l : List AN) : (acells l).length = l.length * 7 := by
  induction l with
  | nil => rfl
  | cons a r ih =>
    have e : acells (a :: r) = a.cs ++ acells r := by simp [acells]
    rw [e, List.length_append, ih]
    simp only [AN.cs, List.length_cons, List.length_nil]
    omega
theorem acells_at (l : List AN) : ∀ (j : Nat) (h : j < l.length) (k : Nat), k < 7 → (acells l)[j * 7 + k]? = l[j].cs[k]? := by
  induction l with
  | nil => intro j h; simp at h
  | cons p r ih =>
    intro j h k hk
    have e : acells (p :: r) = p.cs ++ acells r := by simp [acells]
    have hl : p.cs.length = 7 := rfl
    rw [e]
    rcases j with _ | j
    · rw [List.getElem?_append_left (by omega)]
      simp
    · rw [List.getElem?_append_right (by omega), hl, show (j + 1) * 7 + k - 7 = j * 7 + k by omega, ih j (by simpa using h) k hk]
      rfl
theorem Tryz.infoAn : (Tryz.prog.info? 47).map (fun i => (i.zero, i.size, i.bytes)) = some (some (.agg #[.int .u32 0, .int .u32 0, .int .u8 0, .int .u32 0, .int .u32 0, .slice none 0 0, .slice none 0 0]), 7, 72) := by kernel_rfl
/-- append(answers, a). -/
theorem app_ans (w : World) (base x : Nat) (v : Value) (l : List AN) (a : AN) (h : w.ownsRow base 47 7 v l.length (acells l)) (hb : base ≤ w.heap.size) (hn : l.length ≤ 1000000000) (hx : w.heap[x]? = some (.cells a.cs.toArray 47)) (h1 : ∀ u ∈ a.cs, u.oneCell' = true) :
    ∃ ao cap w', (Builtin.append_ #[74, 74] 74 #[v, .slice (some ⟨x, 0, none⟩) 1 1]).run Tryz.prog w = .ok (.slice ao (l.length + 1) cap) w' ∧ w'.ownsRow base 47 7 (.slice ao (l.length + 1) cap) (l ++ [a]).length (acells (l ++ [a])) ∧ Fr (fun g => v.ownBlock = some g) w w' ∧ ∀ g, (Value.slice ao (l.length + 1) cap).ownBlock = some g → v.ownBlock = some g ∨ w.heap.size ≤ g := by
  obtain ⟨i0, hi, hz0, hz1, hz2⟩ := info_parts Tryz.infoAn
  obtain ⟨v', w', hr, h2, h3, _, h5⟩ := run_append_own_at (P := Tryz.prog) (w := w) base 74 74 47 i0 (.agg #[.int .u32 0, .int .u32 0, .int .u8 0, .int .u32 0, .int .u32 0, .slice none 0 0, .slice none 0 0]) 7 72 Tryz.underlying74 hi hz0 hz1 hz2 rfl (by decide) v l.length (acells l) h ⟨x, 0, none⟩ 1 1 a.cs rfl (fun j u hu => by
    rw [addr_add, Nat.zero_add]
    simp only [World.cell?, hx]
    simpa using hu) h1 (by simp only [maxLen]; omega) (by omega) hb
  obtain ⟨ao, cap, rfl⟩ := own_formX h2
  refine ⟨ao, cap, w', hr, by rw [acells_app, List.length_append, List.length_singleton]; exact h2, (Fr.refl _ _).grown h3 (fun g hg => .inl hg), fun g hg => ?_⟩
  rcases h5 with e | e
  · rw [e] at hg; exact .inl hg
  · rw [e] at hg; cases hg; exact .inr (Nat.le_refl _)
/-- An answer in memory is what is told; its lists are one's own, apart from T. -/
structure AnOk (w : World) (base : Nat) (T : Nat → Prop) (r : RQ) (a : AN) (x : RA) : Prop where
  e : a.cl = r.cl ∧ a.nu = r.nu ∧ a.co = x.co ∧ a.rc = x.rc ∧ a.ve = x.ve
  f : OwF w base a.fv x.F
  h : OwS w base a.hv x.H
  tf : ∀ g, a.fv.ownBlock = some g → ¬ T g
  th : ∀ g, a.hv.ownBlock = some g → ¬ T g
theorem AnOk.frS {w w' : World} {base : Nat} {T T' S : Nat → Prop} {r : RQ} {a : AN} {x : RA} (h : AnOk w base T r a x) (hf : Fr S w w') (hS : ∀ g, (a.fv.ownBlock = some g ∨ a.hv.ownBlock = some g) → ¬ S g) (hT : ∀ g, g < w.heap.size → T' g → T g) : AnOk w' base T' r a x :=
  ⟨h.e, ownsRow_of_block h.f (fun g hg => hf.block g (h.f.lt g hg).2 (hS g (.inl hg))), ownsRow_of_block h.h (fun g hg => hf.block g (h.h.lt g hg).2 (hS g (.inr hg))), fun g hg hT' => h.tf g hg (hT g (h.f.lt g hg).2 hT'), fun g hg hT' => h.th g hg (hT g (h.h.lt g hg).2 hT')⟩
end Go.Proofs.YtciblhmmpamjoaaGreatDoor

namespace Go.Proofs.YtciblhmmpamjoaaGreatDoor
open Go.RowKit Go.Shelf

theorem pcells_app (l : List P3) (p : P3) : pcells (l ++ [p]) = pcells l ++ [.int .u32 (p.a : Nat), .int .u32 (p.r : Nat), .int .u32 (p.w : Nat)] := by simp [pcells, P3.cells]
/-- append(staff, p). -/
theorem app_staff (w : World) (base x : Nat) (v : Value) (l : List P3) (p : P3) (h : w.ownsRow base 41 3 v l.length (pcells l)) (hb : base ≤ w.heap.size) (hn : l.length ≤ 1000000000) (hx : w.heap[x]? = some (.cells #[.int .u32 (p.a : Nat), .int .u32 (p.r : Nat), .int .u32 (p.w : Nat)] 41)) :
    ∃ ao cap w', (Builtin.append_ #[32, 32] 32 #[v, .slice (some ⟨x, 0, none⟩) 1 1]).run Tryz.prog w = .ok (.slice ao (l.length + 1) cap) w' ∧ w'.ownsRow base 41 3 (.slice ao (l.length + 1) cap) (l.length + 1) (pcells (l ++ [p])) ∧ Fr (fun g => v.ownBlock = some g) w w' := by
  obtain ⟨i0, hi, hz0, hz1, hz2⟩ := info_parts Tryz.infoStf
  obtain ⟨v', w', hr, h2, h3, _, h5⟩ := run_append_own_at (P := Tryz.prog) (w := w) base 32 32 41 i0 (.agg #[.int .u32 0, .int .u32 0, .int .u32 0]) 3 12 Tryz.underlying32 hi hz0 hz1 hz2 rfl (by decide) v l.length (pcells l) h ⟨x, 0, none⟩ 1 1 [.int .u32 (p.a : Nat), .int .u32 (p.r : Nat), .int .u32 (p.w : Nat)] rfl (fun j u hu => by
    rw [addr_add, Nat.zero_add]
    simp only [World.cell?, hx]
    simpa using hu) (fun u hu => by simp at hu; rcases hu with rfl | rfl | rfl <;> rfl) (by simp only [maxLen]; omega) (by omega) hb
  obtain ⟨ao, cap, rfl⟩ := own_formX h2
  exact ⟨ao, cap, w', hr, by rw [pcells_app]; exact h2, (Fr.refl _ _).grown h3 (fun g hg => .inl hg)⟩
set_option maxHeartbeats 2000000 in
set_option maxRecDepth 100000 in
/-- staff: a list in new memory. -/
theorem staff_any (x : Value) (l : List P3) (w : World) (hx : Stf w x l) (hl : l.length ≤ 1000000) :
    Calls Tryz.prog 13 #[x] w fun e w' => ∃ v, e = .returned v ∧ w'.ownsRow w.heap.size 41 3 v l.length (pcells l) ∧ Fr (fun _ => False) w w' := by
  have HX := hide hx
  obtain ⟨xo, xc, rfl⟩ := hx.form
  clear hx
  go_enter Tryz.func13, Tryz.ntmps13
  go_wp2_with fail
  go_loopw [3, 4] (fun av iv wr => ∃ (j : Nat) (ao : Option Addr) (cap : Nat), j ≤ l.length ∧ iv = .int .i64 (j : Nat) ∧ av = .slice ao j cap ∧ wr.ownsRow w.heap.size 41 3 (.slice ao j cap) j (pcells (l.take j)) ∧ Fr (fun _ => False) w wr) (fun _ iv _ => l.length - (intOf iv).toNat)
  case atStart => exact ⟨0, none, 0, Nat.zero_le _, rfl, rfl, World.ownsRow_nil _ _ _ _, Fr.refl _ _⟩
  case round =>
    obtain ⟨j, ao, cap, hj, rfl, rfl, hown, hfr⟩ := hrel
    have hlen : (l.take j).length = j := by simp; omega
    by_cases hlt : j < l.length
    · obtain ⟨g, o, rfl, c0, c1, c2⟩ := ((unhide HX).fr hfr).at_ j hlt
      obtain ⟨P, hPe⟩ : ∃ P, l[j] = P := ⟨_, rfl⟩
      rw [hPe] at c0 c1 c2
      have htk : l.take (j + 1) = l.take j ++ [P] := by rw [List.take_add_one, List.getElem?_eq_getElem hlt, hPe]; rfl
      obtain ⟨pa, pr, pw⟩ := P
      obtain ⟨ao2, cap2, w2, hr, hown2, hf2⟩ := app_staff (wr.alloc (.cells #[.int .u32 (pa : Nat), .int .u32 (pr : Nat), .int .u32 (pw : Nat)] 41)) w.heap.size wr.heap.size (.slice ao j cap) (l.take j) ⟨pa, pr, pw⟩ (by rw [hlen]; exact hown.alloc _) (by have := hfr.size; simp; omega) (by omega) Array.getElem?_push_size
      rw [hlen] at hr hown2
      rw [← htk] at hown2
      have hf3 : Fr (fun _ => False) w w2 := (hfr.trans (box1 wr _) (fun _ _ h => h)).absorb hf2 (fun k hk => (hown.lt k hk).1)
      have HR := hide hr
      have HO := hide (And.intro hown2 hf3)
      simp only at c0 c1 c2
      have hkl : (j : Int) < (l.length : Int) := by omega
      clear hown hfr hPe htk hr hown2 hf2 hf3 hlen
      go_wp2_with (at_builtin; refine wpList_app rfl (.tmp 11) (.tmp 16) 32 32 rfl _ _ _ rfl rfl (unhide HR) ?_)
      go_roundw
      case rel => exact ⟨j + 1, ao2, cap2, hlt, by go_num, rfl, (unhide HO).1, (unhide HO).2⟩
      case measure => simp [intOf]; omega
    · obtain rfl : j = l.length := by omega
      have HO := hide (And.intro hown hfr)
      clear hown hfr
      go_wp2_with fail
      go_ret
      obtain ⟨h1, h2⟩ := unhide HO
      rw [List.take_length] at h1
      exact ⟨_, rfl, h1, h2⟩
/-- The place of a request. -/
def plc (l : List Nat) (j : Nat) : Nat := if h : j < l.length then l[j] else j
set_option maxHeartbeats 2000000 in
set_option maxRecDepth 100000 in
theorem place_any (sv rv pv : Value) (l : List Nat) (j : Nat) (w : World) (hp : Us w pv l) (hj : j < 4294967296) (hs : ∃ a n c, sv = .slice a n c) (hr : ∃ a n c, rv = .slice a n c) :
    Calls Tryz.prog 16 #[.agg #[sv, rv, pv], .int .i64 (j : Nat)] w fun e w' => e = .returned (.int .u32 (plc l j : Nat)) ∧ Fr (fun _ => False) w w' := by
  have HP := hide hp
  obtain ⟨xo, xc, rfl⟩ := hp.form
  obtain ⟨sa, sn, sc, rfl⟩ := hs
  obtain ⟨ra, rn, rc, rfl⟩ := hr
  clear hp
  by_cases hlt : j < l.length
  · obtain ⟨g, o, rfl, c0⟩ := (unhide HP).at_ j hlt
    have hgl : g < w.heap.size := lt_of_cell c0
    have hkl : (j : Int) < (l.length : Int) := by omega
    have HE := hide (show plc l j = l[j] from dif_pos hlt)
    obtain ⟨v, hv⟩ : ∃ v, l[j] = v := ⟨_, rfl⟩
    rw [hv] at c0 HE
    clear hv
    go_enter Tryz.func16, Tryz.ntmps16
    go_wp2_with fail
    go_ret
    rw [unhide HE]
    exact ⟨rfl, box1 w _⟩
  · have hkl : ¬ (j : Int) < (l.length : Int) := by omega
    have hwr : IntKind.u32.wrap (j : Int) = (j : Int) := by rw [IntKind.wrap_u32]; omega
    have HE := hide (show plc l j = j from dif_neg hlt)
    go_enter Tryz.func16, Tryz.ntmps16
    go_wp2_with fail
    go_ret
    rw [unhide HE]
    exact ⟨rfl, box1 w _⟩
end Go.Proofs.YtciblhmmpamjoaaGreatDoor

namespace Go.Proofs.YtciblhmmpamjoaaGreatDoor
open Go.RowKit

set_option maxRecDepth 100000 in
theorem gbits_any (x : Nat) (w : World) : Calls Tryz.prog 75 #[.float .f32 x] w fun e w' => e = .returned (.int .u32 (x : Nat)) ∧ w' = w := by
  have hb := Tryz.fbitsO x
  go_enter Tryz.func75, Tryz.ntmps75
  go_wp2_with fail
  go_ret
  exact ⟨rfl, rfl⟩
set_option maxHeartbeats 2000000 in
set_option maxRecDepth 100000 in
/-- SameFields, of like lists. -/
theorem sameF_any (x y : Value) (l : List F5) (w : World) (hx : Fds w x l) (hy : Fds w y l) (hl : l.length ≤ 140737488355328) :
    Calls Tryz.prog 43 #[x, y] w fun e w' => e = .returned (.bool true) ∧ ∃ q, w' = w.drewN q := by
  have HX := hide (And.intro hx hy)
  obtain ⟨xo, xc, rfl⟩ := hx.form
  obtain ⟨yo, yc, rfl⟩ := hy.form
  clear hx hy
  go_enter Tryz.func43, Tryz.ntmps43
  go_wp2_with fail
  go_loopw [5] (fun iv wr => ∃ j q : Nat, j ≤ l.length ∧ iv = .int .i64 (j : Nat) ∧ wr = w.drewN q) (fun iv _ => l.length - (intOf iv).toNat)
  case atStart => exact ⟨0, 0, Nat.zero_le _, rfl, rfl⟩
  case round =>
    obtain ⟨j, q, hj, rfl, hwq⟩ := hrel
    have HW := hide hwq
    have hfr : Fr (fun _ => False) w wr := by rw [hwq]; exact (Fr.refl _ _).drewN q
    clear hwq
    by_cases hlt : j < l.length
    · obtain ⟨g, o, rfl, c0, c1, c2, c3, c4⟩ := ((unhide HX).1.fr hfr).at_ j hlt
      obtain ⟨g2, o2, rfl, d0, d1, d2, d3, d4⟩ := ((unhide HX).2.fr hfr).at_ j hlt
      obtain ⟨⟨fn, fk, ft, fv, fu⟩, hf⟩ : ∃ f, l[j] = f := ⟨_, rfl⟩
      rw [hf] at c0 c1 c2 c3 c4 d0 d1 d2 d3 d4
      simp only at c0 c1 c2 c3 c4 d0 d1 d2 d3 d4
      have hkl : (j : Int) < (l.length : Int) := by omega
      clear hf hfr
      go_wp2_with fail
      go_quiet ((go_at_call 75; exact Calls.quiet_of_same (gbits_any fv _)))
      go_wp2_with fail
      go_roundw
      case rel => exact ⟨j + 1, q + nq, hlt, by go_num, by rw [unhide HW, World.drewN_drewN]⟩
      case measure => simp [intOf]; omega
    · obtain rfl : j = l.length := by omega
      clear hfr
      go_wp2_with fail
      go_ret
      exact ⟨rfl, q, unhide HW⟩
end Go.Proofs.YtciblhmmpamjoaaGreatDoor

namespace Go.Proofs.YtciblhmmpamjoaaGreatDoor
open Go.RowKit Go.Shelf

/-- Summaries that may be read. -/
def Sms (w : World) (x : Value) (l : List SM) : Prop :=
  (∃ a c, x = .slice a 0 c ∧ l = []) ∨ ∃ g o c, x = .slice (some ⟨g, o, none⟩) l.length c ∧ ∀ j (h : j < l.length), w.cell? ⟨g, o + j * 4, none⟩ = some (.int .u32 (l[j].au : Nat)) ∧ w.cell? ⟨g, o + j * 4 + 1, none⟩ = some (.int .u32 (l[j].ev : Nat)) ∧ w.cell? ⟨g, o + j * 4 + 2, none⟩ = some (.int .u32 (l[j].nf : Nat)) ∧ w.cell? ⟨g, o + j * 4 + 3, none⟩ = some (.bool l[j].rd)
theorem Sms.form {w : World} {x : Value} {l : List SM} (h : Sms w x l) : ∃ xo xc, x = .slice xo l.length xc := by
  rcases h with ⟨a, c, rfl, rfl⟩ | ⟨g, o, c, rfl, _⟩ <;> exact ⟨_, _, rfl⟩
theorem Sms.fr {w w' : World} {x : Value} {l : List SM} (h : Sms w x l) (hf : Fr (fun _ => False) w w') : Sms w' x l := by
  rcases h with h | ⟨g, o, c, h1, h2⟩
  · exact .inl h
  · refine .inr ⟨g, o, c, h1, fun j hj => ?_⟩
    obtain ⟨c0, c1, c2, c3⟩ := h2 j hj
    have hg : g < w.heap.size := lt_of_cell c0
    exact ⟨(hf.cell (p := ⟨g, _, none⟩) hg (fun h => h)).trans c0, (hf.cell (p := ⟨g, _, none⟩) hg (fun h => h)).trans c1, (hf.cell (p := ⟨g, _, none⟩) hg (fun h => h)).trans c2, (hf.cell (p := ⟨g, _, none⟩) hg (fun h => h)).trans c3⟩
theorem Sms.at_ {w : World} {xo : Option Addr} {n c : Nat} {l : List SM} (h : Sms w (.slice xo n c) l) (j : Nat) (hj : j < l.length) : ∃ g o, xo = some ⟨g, o, none⟩ ∧ w.cell? ⟨g, o + j * 4, none⟩ = some (.int .u32 (l[j].au : Nat)) ∧ w.cell? ⟨g, o + j * 4 + 1, none⟩ = some (.int .u32 (l[j].ev : Nat)) ∧ w.cell? ⟨g, o + j * 4 + 2, none⟩ = some (.int .u32 (l[j].nf : Nat)) ∧ w.cell? ⟨g, o + j * 4 + 3, none⟩ = some (.bool l[j].rd) := by
  rcases h with ⟨_, _, _, rfl⟩ | ⟨g, o, c', e, h2⟩
  · simp at hj
  · simp only [Value.slice.injEq] at e
    obtain ⟨rfl, _, _⟩ := e
    exact ⟨g, o, rfl, h2 j hj⟩
theorem scells_at : ∀ (l : List SM) (k : Nat) (h : k < l.length), (scells l)[k * 4]? = some (.int .u32 (l[k].au : Nat)) ∧ (scells l)[k * 4 + 1]? = some (.int .u32 (l[k].ev : Nat)) ∧ (scells l)[k * 4 + 2]? = some (.int .u32 (l[k].nf : Nat)) ∧ (scells l)[k * 4 + 3]? = some (.bool l[k].rd)
  | [], k, h => by simp at h
  | f :: r, 0, _ => by simp [scells]
  | f :: r, k + 1, h => by
    have ih := scells_at r k (by simpa using h)
    have e : scells (f :: r) = [.int .u32 (f.au : Nat), .int .u32 (f.ev : Nat), .int .u32 (f.nf : Nat), .bool f.rd] ++ scells r := by simp [scells]
    have hl : ([Value.int .u32 (f.au : Nat), .int .u32 (f.ev : Nat), .int .u32 (f.nf : Nat), .bool f.rd]).length = 4 := rfl
    rw [e]
    refine ⟨?_, ?_, ?_, ?_⟩
    · rw [List.getElem?_append_right (by rw [hl]; omega), hl, show (k + 1) * 4 - 4 = k * 4 by omega]; exact ih.1
    · rw [List.getElem?_append_right (by rw [hl]; omega), hl, show (k + 1) * 4 + 1 - 4 = k * 4 + 1 by omega]; exact ih.2.1
    · rw [List.getElem?_append_right (by rw [hl]; omega), hl, show (k + 1) * 4 + 2 - 4 = k * 4 + 2 by omega]; exact ih.2.2.1
    · rw [List.getElem?_append_right (by rw [hl]; omega), hl, show (k + 1) * 4 + 3 - 4 = k * 4 + 3 by omega]; exact ih.2.2.2
theorem OwS.sms {w : World} {base : Nat} {v : Value} {l : List SM} (h : OwS w base v l) : Sms w v l := by
  have ho : w.ownsRow base 99 4 v l.length (scells l) := h
  rcases Nat.eq_zero_or_pos l.length with h0 | h0
  · obtain rfl := List.length_eq_zero_iff.1 h0
    obtain ⟨ao, cap, rfl⟩ := own_formX ho
    exact .inl ⟨ao, cap, rfl, rfl⟩
  · obtain ⟨g, cap, e, _, _⟩ := ho.form h0
    rw [e] at ho
    refine .inr ⟨g, 0, cap, e, fun j hj => ?_⟩
    obtain ⟨a0, a1, a2, a3⟩ := scells_at l j hj
    rw [Nat.zero_add]
    exact ⟨(ho.cellAt _ (by omega)).trans a0, (ho.cellAt _ (by omega)).trans a1, (ho.cellAt _ (by omega)).trans a2, (ho.cellAt _ (by omega)).trans a3⟩
theorem Tryz.held_id : Tryz.prog.stoodInHeld 24 = false := by kernel_rfl
theorem Tryz.fields_id : Tryz.prog.underlying 24 = some (.struct (Tryz.prog.fieldsOf 24)) := by kernel_rfl
theorem Tryz.held_sm : Tryz.prog.stoodInHeld 99 = false := by kernel_rfl
theorem Tryz.fields_sm : Tryz.prog.underlying 99 = some (.struct (Tryz.prog.fieldsOf 99)) := by kernel_rfl
theorem neq_id (a b : Nat) (w : World) : (binOp .neq 24 (.agg #[.int .u32 (a : Nat), .int .u32 (b : Nat)]) (.agg #[.int .u32 (a : Nat), .int .u32 (b : Nat)])).run Tryz.prog w = .ok (.bool false) w := by
  rw [run_neq_struct, show (10000 : Nat) = 9999 + 1 from rfl, run_equalIn_agg _ 9999 _ _ _ Tryz.fields_id Tryz.held_id]
  simp [Program.fieldsOf, Tryz.underlying24, Op.eqFields, go_sem]
theorem neq_sm (a b c : Nat) (d : Bool) (w : World) : (binOp .neq 99 (.agg #[.int .u32 (a : Nat), .int .u32 (b : Nat), .int .u32 (c : Nat), .bool d]) (.agg #[.int .u32 (a : Nat), .int .u32 (b : Nat), .int .u32 (c : Nat), .bool d])).run Tryz.prog w = .ok (.bool false) w := by
  rw [run_neq_struct, show (10000 : Nat) = 9999 + 1 from rfl, run_equalIn_agg _ 9999 _ _ _ Tryz.fields_sm Tryz.held_sm]
  simp [Program.fieldsOf, Tryz.underlying99, Op.eqFields, go_sem]
end Go.Proofs.YtciblhmmpamjoaaGreatDoor

namespace Go.Proofs.YtciblhmmpamjoaaGreatDoor
open Go.RowKit Go.Shelf

theorem Fr.ofDrew (w : World) (q : Nat) : Fr (fun _ => False) w (w.drewN q) := (Fr.refl _ _).drewN q
set_option maxHeartbeats 4000000 in
set_option maxRecDepth 100000 in
/-- SameAnswer, of like answers. -/
theorem sameA_any (cl nu co rc ve : Nat) (fv hv fv' hv' : Value) (F : List F5) (H : List SM) (w : World) (hf : Fds w fv F) (hf' : Fds w fv' F) (hh : Sms w hv H) (hh' : Sms w hv' H) (hF : F.length ≤ 140737488355328) (hH : H.length ≤ 140737488355328) :
    Calls Tryz.prog 18 #[.agg #[.int .u32 (cl : Nat), .int .u32 (nu : Nat), .int .u8 (co : Nat), .int .u32 (rc : Nat), .int .u32 (ve : Nat), fv, hv], .agg #[.int .u32 (cl : Nat), .int .u32 (nu : Nat), .int .u8 (co : Nat), .int .u32 (rc : Nat), .int .u32 (ve : Nat), fv', hv']] w fun e w' => e = .returned (.bool true) ∧ Fr (fun _ => False) w w' := by
  have HSF : Hid (∀ W, Fr (fun _ => False) w W → Calls Tryz.prog 43 #[fv, fv'] W fun e w' => e = .returned (.bool true) ∧ ∃ q, w' = W.drewN q) := fun W hW => sameF_any fv fv' F W (hf.fr hW) (hf'.fr hW) hF
  have HH := hide (And.intro hh hh')
  obtain ⟨fo, fc, rfl⟩ := hf.form
  obtain ⟨fo', fc', rfl⟩ := hf'.form
  obtain ⟨ho, hc, rfl⟩ := hh.form
  obtain ⟨ho', hc', rfl⟩ := hh'.form
  have hni := neq_id cl nu
  obtain ⟨W1, hW1⟩ : ∃ W1, W1 = (w.alloc (.cells #[.int .u32 (cl : Nat), .int .u32 (nu : Nat), .int .u8 (co : Nat), .int .u32 (rc : Nat), .int .u32 (ve : Nat), .slice fo F.length fc, .slice ho H.length hc] 47)).alloc (.cells #[.int .u32 (cl : Nat), .int .u32 (nu : Nat), .int .u8 (co : Nat), .int .u32 (rc : Nat), .int .u32 (ve : Nat), .slice fo' F.length fc', .slice ho' H.length hc'] 47) := ⟨_, rfl⟩
  have F1 : Hid (Fr (fun _ => False) w W1) := by rw [hW1]; exact (box1 w _).trans (box1 _ _) (fun _ _ h => h)
  have e1 : w.heap.size + 1 = (w.alloc (.cells #[.int .u32 (cl : Nat), .int .u32 (nu : Nat), .int .u8 (co : Nat), .int .u32 (rc : Nat), .int .u32 (ve : Nat), .slice fo F.length fc, .slice ho H.length hc] 47)).heap.size := by simp
  have a6 : W1.cell? ⟨w.heap.size, 6, none⟩ = some (.slice ho H.length hc) := by
    rw [hW1]
    refine ((box1 _ _).cell (p := ⟨w.heap.size, 6, none⟩) (by simp) (fun h => h)).trans ?_
    rw [World.cell?_alloc_at _ _ _ _ rfl]; rfl
  have b6 : W1.cell? ⟨w.heap.size + 1, 6, none⟩ = some (.slice ho' H.length hc') := by
    rw [hW1, e1, World.cell?_alloc_at _ _ _ _ rfl]; rfl
  clear hf hf' hh hh' e1
  go_enter Tryz.func18, Tryz.ntmps18
  go_wp2_with fail
  rw [← hW1]
  clear hW1
  refine ((unhide HSF) _ (unhide F1)).mono ?_
  rintro e w2 ⟨rfl, q0, hq0⟩
  have HW2 := hide hq0
  have hf2 : Fr (fun _ => False) W1 w2 := by rw [hq0]; exact Fr.ofDrew _ _
  have x6 := (hf2.cell (p := ⟨w.heap.size, 6, none⟩) (lt_of_cell a6) (fun h => h)).trans a6
  have y6 := (hf2.cell (p := ⟨w.heap.size + 1, 6, none⟩) (lt_of_cell b6) (fun h => h)).trans b6
  clear HSF hq0 hf2
  go_wp2_with fail
  clear x6 y6
  go_loopw [5] (fun iv wr => ∃ j q : Nat, j ≤ H.length ∧ iv = .int .i64 (j : Nat) ∧ wr = W1.drewN q) (fun iv _ => H.length - (intOf iv).toNat)
  case atStart => exact ⟨0, q0, Nat.zero_le _, rfl, unhide HW2⟩
  case round =>
    obtain ⟨j, q, hj, rfl, hwq⟩ := hrel
    have HW := hide hwq
    have hfr : Fr (fun _ => False) W1 wr := by rw [hwq]; exact Fr.ofDrew _ _
    have x6 := (hfr.cell (p := ⟨w.heap.size, 6, none⟩) (lt_of_cell a6) (fun h => h)).trans a6
    have y6 := (hfr.cell (p := ⟨w.heap.size + 1, 6, none⟩) (lt_of_cell b6) (fun h => h)).trans b6
    clear hwq
    by_cases hlt : j < H.length
    · obtain ⟨g, o, rfl, c0, c1, c2, c3⟩ := (((unhide HH).1.fr (unhide F1)).fr hfr).at_ j hlt
      obtain ⟨g2, o2, rfl, d0, d1, d2, d3⟩ := (((unhide HH).2.fr (unhide F1)).fr hfr).at_ j hlt
      obtain ⟨⟨sa, se, sn, sr⟩, hs⟩ : ∃ f, H[j] = f := ⟨_, rfl⟩
      rw [hs] at c0 c1 c2 c3 d0 d1 d2 d3
      simp only at c0 c1 c2 c3 d0 d1 d2 d3
      have hns := neq_sm sa se sn sr
      have hkl : (j : Int) < (H.length : Int) := by omega
      clear hs hfr a6 b6
      go_wp2_with fail
      go_quiet (fail)
      go_wp2_with fail
      go_roundw
      case rel => exact ⟨j + 1, q + nq, hlt, by go_num, by rw [unhide HW, World.drewN_drewN]⟩
      case measure => simp [intOf]; omega
    · obtain rfl : j = H.length := by omega
      clear hfr a6 b6
      go_wp2_with fail
      go_ret
      refine ⟨rfl, ?_⟩
      rw [unhide HW]
      exact (unhide F1).drewN q
end Go.Proofs.YtciblhmmpamjoaaGreatDoor

namespace Go.Proofs.YtciblhmmpamjoaaGreatDoor
open Go.RowKit Go.Shelf

/-- What is refused changes nothing, and is answered by a code alone. -/
theorem step_no {s : RM} {r : RQ} {F : List F5} {pl : Nat} (h : (s.step r F pl).2.co ≠ 0) : s.step r F pl = (s, RA.no (s.step r F pl).2.co) := by
  have hno : ∀ c : Nat, (s, RA.no c) = (s, RA.no (RA.no c).co) := fun c => rfl
  unfold RM.step at h ⊢
  split
  · rfl
  rename_i h1
  rw [if_neg h1] at h
  split
  · rfl
  rename_i h2
  rw [if_neg h2] at h
  split
  · rename_i h3
    rw [if_pos h3] at h
    unfold RM.create at h ⊢
    split
    · rfl
    rename_i h4
    rw [if_neg h4] at h
    split
    · rfl
    rename_i h5
    rw [if_neg h5] at h
    exact absurd rfl h
  rename_i h3
  rw [if_neg h3] at h
  split
  · rfl
  rename_i h4
  rw [if_neg h4] at h
  cases hc : s.C[r.rc - 1]? with
  | none => rfl
  | some c =>
    rw [hc] at h
    simp only at h ⊢
    unfold RM.op at h ⊢
    split
    · rename_i h5
      rw [if_pos h5] at h
      unfold RM.amend at h ⊢
      split
      · rfl
      rename_i a1
      rw [if_neg a1] at h
      split
      · rfl
      rename_i a2
      rw [if_neg a2] at h
      split
      · rfl
      rename_i a3
      rw [if_neg a3] at h
      split
      · rfl
      rename_i a4
      rw [if_neg a4] at h
      split
      · rfl
      rename_i a5
      rw [if_neg a5] at h
      exact absurd rfl h
    rename_i h5
    rw [if_neg h5] at h
    split
    · rename_i h6
      rw [if_pos h6] at h
      unfold RM.read at h ⊢
      split
      · rfl
      rename_i a1
      rw [if_neg a1] at h
      split
      · rfl
      rename_i a2
      rw [if_neg a2] at h
      cases hv : c.V[r.vn c - 1]? with
      | none => rfl
      | some v =>
        rw [hv] at h
        simp only at h ⊢
        split
        · rfl
        · rename_i a3
          rw [if_neg a3] at h
          exact absurd rfl h
    rename_i h6
    rw [if_neg h6] at h
    split
    · rename_i h7
      rw [if_pos h7] at h
      unfold RM.redact at h ⊢
      split
      · rfl
      rename_i a1
      rw [if_neg a1] at h
      split
      · rfl
      rename_i a2
      rw [if_neg a2] at h
      cases hv : c.V[r.ve - 1]? with
      | none => rfl
      | some v =>
        rw [hv] at h
        simp only at h ⊢
        split
        · rfl
        · rename_i a3
          rw [if_neg a3] at h
          exact absurd rfl h
    rename_i h7
    rw [if_neg h7] at h
    split
    · rename_i h8
      rw [if_pos h8] at h
      unfold RM.history at h ⊢
      split
      · rfl
      rename_i a1
      rw [if_neg a1] at h
      exact absurd rfl h
    rename_i h8
    rw [if_neg h8] at h
    split
    · rename_i h9
      rw [if_pos h9] at h
      unfold RM.seal at h ⊢
      split
      · rfl
      rename_i a1
      rw [if_neg a1] at h
      exact absurd rfl h
    · rename_i h9
      rw [if_neg h9] at h
      unfold RM.break at h ⊢
      split
      · rfl
      rename_i a1
      rw [if_neg a1] at h
      exact absurd rfl h
theorem Us.frS {w w' : World} {x : Value} {l : List Nat} {S : Nat → Prop} (h : Us w x l) (hf : Fr S w w') (hS : ∀ g o n c, x = .slice (some ⟨g, o, none⟩) n c → 0 < n → ¬ S g) : Us w' x l := by
  rcases h with h | ⟨g, o, c, h1, h2⟩
  · exact .inl h
  · exact .inr ⟨g, o, c, h1, fun j hj => (hf.cell (p := ⟨g, _, none⟩) (lt_of_cell (h2 j hj)) (hS g o _ c h1 (by omega))).trans (h2 j hj)⟩
/-- Two States of one staff, a play in its box; what the one may write to is no part of the other. -/
structure RF (w wr : World) (bs bz : Nat) (Ts Tz : Nat → Prop) (ss sz : RM) (sv rv pv : Value) (l : List (RQ × List F5)) (pl : List Nat) : Prop where
  rs : RsB wr bs Ts ss
  rz : RsB wr bz Tz sz
  ts : ∀ k, Ts k → w.heap.size + 1 ≤ k ∧ k < wr.heap.size
  tz : ∀ k, Tz k → w.heap.size + 1 ≤ k ∧ k < wr.heap.size
  dj : ∀ k, Ts k → ¬ Tz k
  b : wr.heap[w.heap.size]? = some (.cells #[sv, rv, pv] 36)
  q : Rqs wr rv l
  lo : ∀ k, Rqb rv l k → k < w.heap.size
  p : Us wr pv pl
  po : ∀ g o n c, pv = .slice (some ⟨g, o, none⟩) n c → 0 < n → g < w.heap.size
  u : GU wr
  uv : 7 < w.heap.size
  f : Fr (fun _ => False) w wr
theorem RF.fr {w wr W : World} {bs bz : Nat} {Ts Tz : Nat → Prop} {ss sz : RM} {sv rv pv : Value} {l : List (RQ × List F5)} {pl : List Nat} (h : RF w wr bs bz Ts Tz ss sz sv rv pv l pl) (hf : Fr (fun _ => False) wr W) : RF w W bs bz Ts Tz ss sz sv rv pv l pl :=
  ⟨h.rs.fr hf, h.rz.fr hf, fun k hk => ⟨(h.ts k hk).1, Nat.lt_of_lt_of_le (h.ts k hk).2 hf.size⟩, fun k hk => ⟨(h.tz k hk).1, Nat.lt_of_lt_of_le (h.tz k hk).2 hf.size⟩, h.dj, (hf.block _ (lt_of_block h.b) (fun h => h)).trans h.b, h.q.fr hf, h.lo, h.p.fr hf, h.po, h.u.fr hf, h.uv, h.f.trans hf (fun _ _ h => h)⟩
/-- Behind Apply of the first. -/
theorem RF.goS {w W W' : World} {bs bz : Nat} {Ts Tz T' : Nat → Prop} {ss sz s' : RM} {sv rv pv : Value} {l : List (RQ × List F5)} {pl : List Nat} (h : RF w W bs bz Ts Tz ss sz sv rv pv l pl) (hf : Fr Ts W W') (hr : RsB W' bs T' s') (k2 : ∀ k, T' k → Ts k ∨ W.heap.size ≤ k) (k3 : ∀ k, T' k → k < W'.heap.size) : RF w W' bs bz T' Tz s' sz sv rv pv l pl := by
  have hb := lt_of_block h.b
  have hs := hf.size
  have hlow : ∀ k, k ≤ w.heap.size → ¬ Ts k := fun k hk hT => by have := (h.ts k hT).1; omega
  refine ⟨hr, h.rz.frS hf (fun k hk => h.dj k hk), fun k hk => ⟨?_, k3 k hk⟩, fun k hk => ⟨(h.tz k hk).1, Nat.lt_of_lt_of_le (h.tz k hk).2 hs⟩, fun k hk hz => ?_, (hf.block _ hb (hlow _ (Nat.le_refl _))).trans h.b, h.q.frS hf (fun k hk => hlow k (by have := h.lo k hk; omega)), h.lo, h.p.frS hf (fun g o n c e h0 => hlow g (by have := h.po g o n c e h0; omega)), h.po, h.u.frT hf (hlow _ (by have := h.uv; omega)), h.uv, h.f.absorb hf (fun k hk => by have := (h.ts k hk).1; omega)⟩
  · rcases k2 k hk with h1 | h1
    · exact (h.ts k h1).1
    · omega
  · rcases k2 k hk with h1 | h1
    · exact h.dj k h1 hz
    · have := (h.tz k hz).2; omega
theorem RF.swap {w wr : World} {bs bz : Nat} {Ts Tz : Nat → Prop} {ss sz : RM} {sv rv pv : Value} {l : List (RQ × List F5)} {pl : List Nat} (h : RF w wr bs bz Ts Tz ss sz sv rv pv l pl) : RF w wr bz bs Tz Ts sz ss sv rv pv l pl :=
  ⟨h.rz, h.rs, h.tz, h.ts, fun k hk hs => h.dj k hs hk, h.b, h.q, h.lo, h.p, h.po, h.u, h.uv, h.f⟩
end Go.Proofs.YtciblhmmpamjoaaGreatDoor

namespace Go.Proofs.YtciblhmmpamjoaaGreatDoor
open Go.RowKit Go.Shelf

theorem OwS.frS {w w' : World} {base : Nat} {v : Value} {l : List SM} {S : Nat → Prop} (h : OwS w base v l) (hf : Fr S w w') (hS : ∀ g, v.ownBlock = some g → ¬ S g) : OwS w' base v l :=
  ownsRow_of_block h (fun g hg => hf.block g (h.lt g hg).2 (hS g hg))
theorem RF.frS {w W W' : World} {bs bz : Nat} {Ts Tz S : Nat → Prop} {ss sz : RM} {sv rv pv : Value} {l : List (RQ × List F5)} {pl : List Nat} (h : RF w W bs bz Ts Tz ss sz sv rv pv l pl) (hf : Fr S W W') (h1 : ∀ k, S k → w.heap.size < k ∧ ¬ Ts k ∧ ¬ Tz k) : RF w W' bs bz Ts Tz ss sz sv rv pv l pl := by
  have hs := hf.size
  have hlow : ∀ k, k ≤ w.heap.size → ¬ S k := fun k hk hS => by have := (h1 k hS).1; omega
  exact ⟨h.rs.frS hf (fun k hk => (h1 k hk).2.1), h.rz.frS hf (fun k hk => (h1 k hk).2.2), fun k hk => ⟨(h.ts k hk).1, Nat.lt_of_lt_of_le (h.ts k hk).2 hs⟩, fun k hk => ⟨(h.tz k hk).1, Nat.lt_of_lt_of_le (h.tz k hk).2 hs⟩, h.dj, (hf.block _ (lt_of_block h.b) (hlow _ (Nat.le_refl _))).trans h.b, h.q.frS hf (fun k hk => hlow k (by have := h.lo k hk; omega)), h.lo, h.p.frS hf (fun g o n c e h0 => hlow g (by have := h.po g o n c e h0; omega)), h.po, h.u.frT hf (hlow _ (by have := h.uv; omega)), h.uv, h.f.absorb hf (fun k hk => by have := (h1 k hk).1; omega)⟩
/-- Apply of the first. -/
theorem RF.apply {w W : World} {bs bz : Nat} {Ts Tz : Nat → Prop} {ss sz : RM} {sv rv pv : Value} {l : List (RQ × List F5)} {pl : List Nat} (h : RF w W bs bz Ts Tz ss sz sv rv pv l pl) {p : RQ × List F5} (hp : p ∈ l) (hok : ss.Ok) (hg : PGood p) (n : Nat) (X : RM × RA) (hX : ss.step p.1 p.2 n = X) :
    Calls Tryz.prog 15 #[.pointer (some ⟨bs, 0, none⟩), p.1.v, .int .u32 (n : Nat)] W fun e w' => ∃ fo fn fc ho hn hc, e = .returned (.agg #[.int .u32 (p.1.cl : Nat), .int .u32 (p.1.nu : Nat), .int .u8 (X.2.co : Nat), .int .u32 (X.2.rc : Nat), .int .u32 (X.2.ve : Nat), .slice fo fn fc, .slice ho hn hc]) ∧ ∃ T', RF w w' bs bz T' Tz X.1 sz sv rv pv l pl ∧ Fr Ts W w' ∧ (∀ k, T' k → Ts k ∨ W.heap.size ≤ k) ∧ OwF w' W.heap.size (.slice fo fn fc) X.2.F ∧ OwS w' W.heap.size (.slice ho hn hc) X.2.H := by
  refine (apply_C bs Ts ss p.1 p.2 n W h.rs (fun k hk => (h.ts k hk).2) hok (h.q.d p hp) hg.2.1 hg.2.2 h.u X hX).mono ?_
  rintro e w' ⟨fo, fn, fc, ho, hn, hc, he, o1, o2, hf, T', k1, k2, k3, k4, k5⟩
  exact ⟨fo, fn, fc, ho, hn, hc, he, T', h.goS hf k1 k2 k3, hf, k2, o1, o2⟩
/-- The two States, and an answer in its box. -/
structure RG (w W : World) (bs bz : Nat) (Ts Tz : Nat → Prop) (ss sz : RM) (sv rv pv : Value) (l : List (RQ × List F5)) (pl : List Nat) (ba : Nat) (blk : Array Value) (base : Nat) (fv hv : Value) (a : RA) : Prop where
  rf : RF w W bs bz Ts Tz ss sz sv rv pv l pl
  bk : W.heap[ba]? = some (.cells blk 47)
  hi : w.heap.size < ba
  ns : ¬ Ts ba
  nz : ¬ Tz ba
  f : OwF W base fv a.F
  h : OwS W base hv a.H
  ap : ∀ k, Tz k → k < base
  nf : fv.ownBlock ≠ some ba
  nh : hv.ownBlock ≠ some ba
theorem RG.fr {w W W' : World} {bs bz : Nat} {Ts Tz : Nat → Prop} {ss sz : RM} {sv rv pv : Value} {l : List (RQ × List F5)} {pl : List Nat} {ba base : Nat} {blk : Array Value} {fv hv : Value} {a : RA} (h : RG w W bs bz Ts Tz ss sz sv rv pv l pl ba blk base fv hv a) (hf : Fr (fun _ => False) W W') : RG w W' bs bz Ts Tz ss sz sv rv pv l pl ba blk base fv hv a :=
  ⟨h.rf.fr hf, (hf.block _ (lt_of_block h.bk) (fun h => h)).trans h.bk, h.hi, h.ns, h.nz, h.f.fr hf (fun _ _ h => h), h.h.frS hf (fun _ _ h => h), h.ap, h.nf, h.nh⟩
/-- The box was there before Apply. -/
theorem RG.early {w W w' : World} {bs bz : Nat} {Ts Tz T' : Nat → Prop} {ss sz s' : RM} {sv rv pv : Value} {l : List (RQ × List F5)} {pl : List Nat} {ba : Nat} {blk : Array Value} {fv hv : Value} {a : RA} (h : RF w W bs bz Ts Tz ss sz sv rv pv l pl) (hb : W.heap[ba]? = some (.cells blk 47)) (hi : w.heap.size < ba) (ns : ¬ Ts ba) (nz : ¬ Tz ba) (h' : RF w w' bs bz T' Tz s' sz sv rv pv l pl) (hf : Fr Ts W w') (k2 : ∀ k, T' k → Ts k ∨ W.heap.size ≤ k) (o1 : OwF w' W.heap.size fv a.F) (o2 : OwS w' W.heap.size hv a.H) : RG w w' bs bz T' Tz s' sz sv rv pv l pl ba blk W.heap.size fv hv a := by
  have hl := lt_of_block hb
  exact ⟨h', (hf.block ba hl ns).trans hb, hi, fun ht => (k2 ba ht).elim ns (fun h => by omega), nz, o1, o2, fun k hk => (h.tz k hk).2, fun e => by have := (o1.lt ba e).1; omega, fun e => by have := (o2.lt ba e).1; omega⟩
/-- The box is made behind Apply. -/
theorem RG.late {w W w' : World} {bs bz : Nat} {Ts Tz T' : Nat → Prop} {ss sz s' : RM} {sv rv pv : Value} {l : List (RQ × List F5)} {pl : List Nat} (blk : Array Value) {fv hv : Value} {a : RA} (h : RF w W bs bz Ts Tz ss sz sv rv pv l pl) (h' : RF w w' bs bz T' Tz s' sz sv rv pv l pl) (o1 : OwF w' W.heap.size fv a.F) (o2 : OwS w' W.heap.size hv a.H) : RG w (w'.alloc (.cells blk 47)) bs bz T' Tz s' sz sv rv pv l pl w'.heap.size blk W.heap.size fv hv a := by
  have hl := lt_of_block h'.b
  exact ⟨h'.fr (box1 w' _), Array.getElem?_push_size, hl, fun ht => by have := (h'.ts _ ht).2; omega, fun ht => by have := (h'.tz _ ht).2; omega, o1.fr (box1 w' _) (fun _ _ h => h), o2.frS (box1 w' _) (fun _ _ h => h), fun k hk => (h.tz k hk).2, fun e => by have := (o1.lt _ e).2; omega, fun e => by have := (o2.lt _ e).2; omega⟩
/-- The answer is stored. -/
theorem RG.put {w W : World} {bs bz : Nat} {Ts Tz : Nat → Prop} {ss sz : RM} {sv rv pv : Value} {l : List (RQ × List F5)} {pl : List Nat} {ba base : Nat} {a0 a1 a2 a3 a4 a5 a6 : Value} {fv hv : Value} {a : RA} (h : RG w W bs bz Ts Tz ss sz sv rv pv l pl ba #[a0, a1, a2, a3, a4, a5, a6] base fv hv a) (c0 c1 c2 c3 c4 c5 c6 : Value) (h1 : ∀ v ∈ [c0, c1, c2, c3, c4, c5, c6], v.oneCell' = true) :
    ∃ W8, (Instr.storeAt 47 (.pointer (some ⟨ba, 0, none⟩)) (.agg #[c0, c1, c2, c3, c4, c5, c6])).run Tryz.prog W = .ok () W8 ∧ RG w W8 bs bz Ts Tz ss sz sv rv pv l pl ba #[c0, c1, c2, c3, c4, c5, c6] base fv hv a := by
  obtain ⟨W8, h2, h3, h4⟩ := ans_put h.bk c0 c1 c2 c3 c4 c5 c6 h1
  exact ⟨W8, h2, h.rf.frS h4 (fun k hk => by rw [hk]; exact ⟨h.hi, h.ns, h.nz⟩), h3, h.hi, h.ns, h.nz, h.f.fr h4 (fun g hg e => h.nf (by rw [hg, e])), h.h.frS h4 (fun g hg e => h.nh (by rw [hg, e])), h.ap, h.nf, h.nh⟩
/-- The box of the play and the request at hand. -/
theorem RF.cells {w W : World} {bs bz : Nat} {Ts Tz : Nat → Prop} {ss sz : RM} {sv pv : Value} {g o n c : Nat} {l : List (RQ × List F5)} {pl : List Nat} (h : RF w W bs bz Ts Tz ss sz sv (.slice (some ⟨g, o, none⟩) n c) pv l pl) {j : Nat} {p : RQ × List F5} (hj : l[j]? = some p) : (W.cell? ⟨w.heap.size, 0, none⟩ = some sv ∧ W.cell? ⟨w.heap.size, 1, none⟩ = some (.slice (some ⟨g, o, none⟩) n c) ∧ W.cell? ⟨w.heap.size, 2, none⟩ = some pv) ∧ R10 W g (o + j * 10) p.1 := by
  refine ⟨⟨by simp [World.cell?, h.b], by simp [World.cell?, h.b], by simp [World.cell?, h.b]⟩, ?_⟩
  obtain ⟨hl, hp⟩ := List.getElem?_eq_some_iff.1 hj
  obtain ⟨g', o', e, r⟩ := h.q.at_ j hl
  cases e
  rw [← hp]
  exact r
/-- Behind Apply of the other. -/
theorem RG.other {w W w' : World} {bs bz : Nat} {Ts Tz T' : Nat → Prop} {ss sz s' : RM} {sv rv pv : Value} {l : List (RQ × List F5)} {pl : List Nat} {ba base : Nat} {blk : Array Value} {fv hv : Value} {a : RA} (h : RG w W bs bz Ts Tz ss sz sv rv pv l pl ba blk base fv hv a) (h' : RF w w' bz bs T' Ts s' ss sv rv pv l pl) (hf : Fr Tz W w') : RF w w' bs bz Ts T' ss s' sv rv pv l pl ∧ w'.heap[ba]? = some (.cells blk 47) ∧ OwF w' base fv a.F ∧ OwS w' base hv a.H :=
  ⟨h'.swap, (hf.block ba (lt_of_block h.bk) h.nz).trans h.bk, h.f.fr hf (fun g hg ht => by have := (h.f.lt g hg).1; have := h.ap g ht; omega), h.h.frS hf (fun g hg ht => by have := (h.h.lt g hg).1; have := h.ap g ht; omega)⟩
end Go.Proofs.YtciblhmmpamjoaaGreatDoor

namespace Go.Proofs.YtciblhmmpamjoaaGreatDoor
open Go.RowKit Go.Shelf

/-- An answer's lists are short. -/
theorem step_short {s : RM} (h : s.Ok) (r : RQ) (F : List F5) (pl : Nat) : (s.step r F pl).2.F.length ≤ 32 ∧ (s.step r F pl).2.H.length ≤ 64 := by
  have hn : ∀ c : Nat, (RA.no c).F.length ≤ 32 ∧ (RA.no c).H.length ≤ 64 := fun c => ⟨by simp [RA.no], by simp [RA.no]⟩
  unfold RM.step
  split
  · exact hn _
  split
  · exact hn _
  split
  · unfold RM.create
    repeat' split
    all_goals first | exact hn _ | exact ⟨by simp, by simp⟩
  split
  · exact hn _
  cases hc : s.C[r.rc - 1]? with
  | none => exact hn _
  | some c =>
    have hco := h.c c (List.mem_of_getElem? hc)
    simp only
    unfold RM.op
    split
    · unfold RM.amend
      repeat' split
      all_goals first | exact hn _ | exact ⟨by simp, by simp⟩
    split
    · unfold RM.read
      split
      · exact hn _
      split
      · exact hn _
      cases hv : c.V[r.vn c - 1]? with
      | none => exact hn _
      | some v =>
        simp only
        split
        · exact hn _
        · exact ⟨(hco.F v (List.mem_of_getElem? hv)).1, by simp⟩
    split
    · unfold RM.redact
      split
      · exact hn _
      split
      · exact hn _
      cases hv : c.V[r.ve - 1]? with
      | none => exact hn _
      | some v =>
        simp only
        split
        · exact hn _
        · exact ⟨by simp, by simp⟩
    split
    · unfold RM.history
      split
      · exact hn _
      · exact ⟨by simp, by simpa using hco.V⟩
    split
    · unfold RM.seal
      split
      · exact hn _
      · exact ⟨by simp, by simp⟩
    · unfold RM.break
      split
      · exact hn _
      · exact ⟨by simp, by simp⟩
theorem OwF.len {w : World} {base n c : Nat} {a : Option Addr} {l : List F5} (h : OwF w base (.slice a n c) l) : n = l.length := by
  obtain ⟨a', c', e⟩ := own_formX h
  cases e
  rfl
theorem OwS.len {w : World} {base n c : Nat} {a : Option Addr} {l : List SM} (h : OwS w base (.slice a n c) l) : n = l.length := by
  obtain ⟨a', c', e⟩ := own_formX h
  cases e
  rfl
end Go.Proofs.YtciblhmmpamjoaaGreatDoor

namespace Go.Proofs.YtciblhmmpamjoaaGreatDoor
open Go.RowKit Go.Shelf

def ada : F5 := fT ⟨#[65, 100, 97]⟩
def S1 : RM := ⟨kn, [⟨7, 6, false, [], [⟨1, 0, [ada], false⟩]⟩]⟩
def S2 : RM := ⟨kn, [⟨7, 6, false, [], [⟨1, 0, [ada], false⟩, ⟨2, 1, [ada, fQ 1108606976], false⟩]⟩]⟩
theorem st0 (v : Value) : RM.step ⟨kn, []⟩ ⟨0, 0, 1, 1, 0, 0, 7, 6, v, ⟨#[]⟩⟩ [ada] 0 = (S1, ⟨0, 1, 1, [], []⟩) := by kernel_rfl
theorem st1 (v : Value) : S1.step ⟨0, 0, 2, 2, 1, 1, 0, 0, v, ⟨#[]⟩⟩ [fQ 1108606976] 1 = (S2, ⟨0, 1, 2, [], []⟩) := by kernel_rfl
theorem st2 (v : Value) : S2.step ⟨0, 0, 1, 2, 1, 2, 0, 0, v, ⟨#[]⟩⟩ [fQ 1108869120] 2 = (S2, ⟨5, 0, 0, [], []⟩) := by kernel_rfl
theorem ok0 : RM.Ok ⟨kn, []⟩ := ⟨by decide, by decide, fun c hc => by cases hc⟩
theorem okF {f : F5} (h : f.v < 4294967296 ∧ f.u < 256) : ∀ x ∈ [f], x.v < 4294967296 ∧ x.u < 256 := fun x hx => by rw [List.mem_singleton] at hx; subst hx; exact h
theorem ok1 : S1.Ok := by
  have h := ok0.step ⟨0, 0, 1, 1, 0, 0, 7, 6, .slice none 0 0, ⟨#[]⟩⟩ [ada] 0 (okF (by decide)) (by decide)
  rw [st0] at h
  exact h
theorem ok2 : S2.Ok := by
  have h := ok1.step ⟨0, 0, 2, 2, 1, 1, 0, 0, .slice none 0 0, ⟨#[]⟩⟩ [fQ 1108606976] 1 (okF (by decide)) (by decide)
  rw [st1] at h
  exact h
end Go.Proofs.YtciblhmmpamjoaaGreatDoor

namespace Go.Proofs.YtciblhmmpamjoaaGreatDoor
open Go.RowKit Go.Shelf

theorem Fr.union {S T : Nat → Prop} {a b : World} (h : Fr S a b) (hS : ∀ k, S k → T k) : Fr T a b := h.mono (fun k _ hk => hS k hk)
/-- What awake carries from Apply to Apply. -/
structure AW (w W : World) (b g z0 z1 z2 z3 z4 z5 N0 N1 : Nat) (T : Nat → Prop) (s : RM) : Prop where
  r : RsB W b T s
  q : Rqs W (.slice (some ⟨g, 0, none⟩) 20 20) (stL z0 z1 z2 z3 z4 z5)
  u : GU W
  f : Fr (fun _ => False) w W
  t : ∀ k, T k → w.heap.size ≤ k ∧ k < W.heap.size ∧ (k < N0 ∨ N1 ≤ k)
  l : ∀ k, Rqb (.slice (some ⟨g, 0, none⟩) 20 20) (stL z0 z1 z2 z3 z4 z5) k → N0 ≤ k ∧ k < N1
  n : N1 ≤ W.heap.size
  v : 7 < w.heap.size
theorem AW.fr {w W W' : World} {b g z0 z1 z2 z3 z4 z5 N0 N1 : Nat} {T : Nat → Prop} {s : RM} (h : AW w W b g z0 z1 z2 z3 z4 z5 N0 N1 T s) (hf : Fr (fun _ => False) W W') : AW w W' b g z0 z1 z2 z3 z4 z5 N0 N1 T s :=
  ⟨h.r.fr hf, h.q.fr hf, h.u.fr hf, h.f.trans hf (fun _ _ h => h), fun k hk => ⟨(h.t k hk).1, Nat.lt_of_lt_of_le (h.t k hk).2.1 hf.size, (h.t k hk).2.2⟩, h.l, Nat.le_trans h.n hf.size, h.v⟩
theorem AW.go {w W W' : World} {b g z0 z1 z2 z3 z4 z5 N0 N1 : Nat} {T : Nat → Prop} {s s' : RM} (h : AW w W b g z0 z1 z2 z3 z4 z5 N0 N1 T s) (hr : RsB W' b (fun k => T k ∨ (W.heap.size ≤ k ∧ k < W'.heap.size)) s') (hf : Fr T W W') : AW w W' b g z0 z1 z2 z3 z4 z5 N0 N1 (fun k => T k ∨ (W.heap.size ≤ k ∧ k < W'.heap.size)) s' :=
  ⟨hr, h.q.frS hf (fun k hk hT => by have := h.l k hk; have := (h.t k hT).2.2; omega), h.u.frT hf (fun hT => by have := (h.t _ hT).1; have := h.v; omega), h.f.absorb hf (fun k hk => (h.t k hk).1), fun k hk => by
    have hn := h.n
    have hs := h.f.size
    have hs2 := hf.size
    rcases hk with hk | hk
    · have := h.t k hk; omega
    · omega, h.l, Nat.le_trans h.n hf.size, h.v⟩
/-- The 0-th request's cells, and Apply of it. -/
theorem AW.at0 {w W : World} {b g z0 z1 z2 z3 z4 z5 N0 N1 : Nat} {T : Nat → Prop} (h : AW w W b g z0 z1 z2 z3 z4 z5 N0 N1 T ⟨kn, []⟩) :
    (W.cell? ⟨g, 0, none⟩ = some (.int .u32 0) ∧ W.cell? ⟨g, 1, none⟩ = some (.int .u32 0) ∧ W.cell? ⟨g, 2, none⟩ = some (.int .u32 1) ∧ W.cell? ⟨g, 3, none⟩ = some (.int .u8 1) ∧ W.cell? ⟨g, 4, none⟩ = some (.int .u32 0) ∧ W.cell? ⟨g, 5, none⟩ = some (.int .u32 0) ∧ W.cell? ⟨g, 6, none⟩ = some (.int .u32 7) ∧ W.cell? ⟨g, 7, none⟩ = some (.int .u32 6) ∧ W.cell? ⟨g, 8, none⟩ = some (.slice (some ⟨z0, 0, none⟩) 1 1) ∧ W.cell? ⟨g, 9, none⟩ = some (.string ⟨#[]⟩)) ∧ Calls Tryz.prog 15 #[.pointer (some ⟨b, 0, none⟩), .agg #[.int .u32 0, .int .u32 0, .int .u32 1, .int .u8 1, .int .u32 0, .int .u32 0, .int .u32 7, .int .u32 6, .slice (some ⟨z0, 0, none⟩) 1 1, .string ⟨#[]⟩], .int .u32 0] W fun e w' => ∃ fo fn fc ho hn hc, e = .returned (.agg #[.int .u32 0, .int .u32 0, .int .u8 0, .int .u32 1, .int .u32 1, .slice fo fn fc, .slice ho hn hc]) ∧ Fr T W w' ∧ AW w w' b g z0 z1 z2 z3 z4 z5 N0 N1 (fun k => T k ∨ (W.heap.size ≤ k ∧ k < w'.heap.size)) S1 := by
  refine ⟨?_, ?_⟩
  · obtain ⟨g', o', e, c⟩ := h.q.at_ 0 (by show _ < 20; omega)
    cases e
    exact c
  · refine (apply_B b T ⟨kn, []⟩ ⟨0, 0, 1, 1, 0, 0, 7, 6, .slice (some ⟨z0, 0, none⟩) 1 1, ⟨#[]⟩⟩ [ada] 0 W h.r ok0 (h.q.d (⟨0, 0, 1, 1, 0, 0, 7, 6, .slice (some ⟨z0, 0, none⟩) 1 1, ⟨#[]⟩⟩, [ada]) (by simp [stL, ada])) (by decide) (okF (by decide)) h.u _ (st0 _)).mono ?_
    rintro e w' ⟨fo, fn, fc, ho, hn, hc, he, hr, _, _, hf⟩
    exact ⟨fo, fn, fc, ho, hn, hc, he, hf, h.go hr hf⟩
/-- The 1-th request's cells, and Apply of it. -/
theorem AW.at1 {w W : World} {b g z0 z1 z2 z3 z4 z5 N0 N1 : Nat} {T : Nat → Prop} (h : AW w W b g z0 z1 z2 z3 z4 z5 N0 N1 T S1) :
    (W.cell? ⟨g, 10, none⟩ = some (.int .u32 0) ∧ W.cell? ⟨g, 11, none⟩ = some (.int .u32 0) ∧ W.cell? ⟨g, 12, none⟩ = some (.int .u32 2) ∧ W.cell? ⟨g, 13, none⟩ = some (.int .u8 2) ∧ W.cell? ⟨g, 14, none⟩ = some (.int .u32 1) ∧ W.cell? ⟨g, 15, none⟩ = some (.int .u32 1) ∧ W.cell? ⟨g, 16, none⟩ = some (.int .u32 0) ∧ W.cell? ⟨g, 17, none⟩ = some (.int .u32 0) ∧ W.cell? ⟨g, 18, none⟩ = some (.slice (some ⟨z1, 0, none⟩) 1 1) ∧ W.cell? ⟨g, 19, none⟩ = some (.string ⟨#[]⟩)) ∧ Calls Tryz.prog 15 #[.pointer (some ⟨b, 0, none⟩), .agg #[.int .u32 0, .int .u32 0, .int .u32 2, .int .u8 2, .int .u32 1, .int .u32 1, .int .u32 0, .int .u32 0, .slice (some ⟨z1, 0, none⟩) 1 1, .string ⟨#[]⟩], .int .u32 1] W fun e w' => ∃ fo fn fc ho hn hc, e = .returned (.agg #[.int .u32 0, .int .u32 0, .int .u8 0, .int .u32 1, .int .u32 2, .slice fo fn fc, .slice ho hn hc]) ∧ Fr T W w' ∧ AW w w' b g z0 z1 z2 z3 z4 z5 N0 N1 (fun k => T k ∨ (W.heap.size ≤ k ∧ k < w'.heap.size)) S2 := by
  refine ⟨?_, ?_⟩
  · obtain ⟨g', o', e, c⟩ := h.q.at_ 1 (by show _ < 20; omega)
    cases e
    exact c
  · refine (apply_B b T S1 ⟨0, 0, 2, 2, 1, 1, 0, 0, .slice (some ⟨z1, 0, none⟩) 1 1, ⟨#[]⟩⟩ [fQ 1108606976] 1 W h.r ok1 (h.q.d (⟨0, 0, 2, 2, 1, 1, 0, 0, .slice (some ⟨z1, 0, none⟩) 1 1, ⟨#[]⟩⟩, [fQ 1108606976]) (by simp [stL])) (by decide) (okF (by decide)) h.u _ (st1 _)).mono ?_
    rintro e w' ⟨fo, fn, fc, ho, hn, hc, he, hr, _, _, hf⟩
    exact ⟨fo, fn, fc, ho, hn, hc, he, hf, h.go hr hf⟩
/-- The 2-th request's cells, and Apply of it. -/
theorem AW.at2 {w W : World} {b g z0 z1 z2 z3 z4 z5 N0 N1 : Nat} {T : Nat → Prop} (h : AW w W b g z0 z1 z2 z3 z4 z5 N0 N1 T S2) :
    (W.cell? ⟨g, 20, none⟩ = some (.int .u32 0) ∧ W.cell? ⟨g, 21, none⟩ = some (.int .u32 0) ∧ W.cell? ⟨g, 22, none⟩ = some (.int .u32 1) ∧ W.cell? ⟨g, 23, none⟩ = some (.int .u8 2) ∧ W.cell? ⟨g, 24, none⟩ = some (.int .u32 1) ∧ W.cell? ⟨g, 25, none⟩ = some (.int .u32 2) ∧ W.cell? ⟨g, 26, none⟩ = some (.int .u32 0) ∧ W.cell? ⟨g, 27, none⟩ = some (.int .u32 0) ∧ W.cell? ⟨g, 28, none⟩ = some (.slice (some ⟨z2, 0, none⟩) 1 1) ∧ W.cell? ⟨g, 29, none⟩ = some (.string ⟨#[]⟩)) ∧ Calls Tryz.prog 15 #[.pointer (some ⟨b, 0, none⟩), .agg #[.int .u32 0, .int .u32 0, .int .u32 1, .int .u8 2, .int .u32 1, .int .u32 2, .int .u32 0, .int .u32 0, .slice (some ⟨z2, 0, none⟩) 1 1, .string ⟨#[]⟩], .int .u32 2] W fun e w' => ∃ fo fn fc ho hn hc, e = .returned (.agg #[.int .u32 0, .int .u32 0, .int .u8 5, .int .u32 0, .int .u32 0, .slice fo fn fc, .slice ho hn hc]) ∧ Fr T W w' ∧ AW w w' b g z0 z1 z2 z3 z4 z5 N0 N1 (fun k => T k ∨ (W.heap.size ≤ k ∧ k < w'.heap.size)) S2 := by
  refine ⟨?_, ?_⟩
  · obtain ⟨g', o', e, c⟩ := h.q.at_ 2 (by show _ < 20; omega)
    cases e
    exact c
  · refine (apply_B b T S2 ⟨0, 0, 1, 2, 1, 2, 0, 0, .slice (some ⟨z2, 0, none⟩) 1 1, ⟨#[]⟩⟩ [fQ 1108869120] 2 W h.r ok2 (h.q.d (⟨0, 0, 1, 2, 1, 2, 0, 0, .slice (some ⟨z2, 0, none⟩) 1 1, ⟨#[]⟩⟩, [fQ 1108869120]) (by simp [stL])) (by decide) (okF (by decide)) h.u _ (st2 _)).mono ?_
    rintro e w' ⟨fo, fn, fc, ho, hn, hc, he, hr, _, _, hf⟩
    exact ⟨fo, fn, fc, ho, hn, hc, he, hf, h.go hr hf⟩
set_option maxHeartbeats 4000000 in
set_option maxRecDepth 100000 in
/-- awake. -/
theorem awake11 (w : World) (hg : GU w) : Calls Tryz.prog 12 #[] w fun e w' => e = .returned (.bool true) ∧ Fr (fun _ => False) w w' := by
  have HG := hide hg
  clear hg
  go_enter Tryz.func12, Tryz.ntmps12
  go_wp2_with fail
  refine (known_any _).mono ?_
  rintro e w1 ⟨ao, rfl, hs1, hf1⟩
  have H1 := hide (And.intro hs1 hf1)
  clear hs1 hf1
  go_wp2_with fail
  refine (new_B _ kn w1 (unhide H1).1 (fun n c e => (by cases e)) (by decide)).mono ?_
  rintro e w2 ⟨b, rfl, hb2, hf2⟩
  have H2 := hide hb2
  have F2 := hide hf2
  clear hb2 hf2
  go_wp2_with fail
  refine (records_B b _ _ _ (unhide H2)).mono ?_
  rintro e w' ⟨rfl, hw⟩
  obtain rfl := hw.symm
  clear hw
  go_wp2_with fail
  refine (story_any _).mono ?_
  rintro e w3 ⟨g, z0, z1, z2, z3, z4, z5, rfl, hq, hlow, hf3⟩
  have A0 : Hid (AW w w3 b g z0 z1 z2 z3 z4 z5 w2.heap.size w3.heap.size (fun k => w1.heap.size ≤ k ∧ k < w2.heap.size) ⟨kn, []⟩) := by
    have f1 := (unhide H1).2
    have f2 := unhide F2
    have f13 := (f1.trans f2 (fun _ _ h => h)).trans hf3 (fun _ _ h => h)
    have hs1 := f1.size
    have hs3 := hf3.size
    exact ⟨(unhide H2).fr hf3, hq, (unhide HG).fr f13, f13, fun k hk => ⟨by omega, by omega, .inl hk.2⟩, fun k hk => ⟨hlow k hk, hq.lt hk⟩, Nat.le_refl _, lt_of_cell ((unhide HG) 0 (by omega))⟩
  clear hq hlow hf3 H1 H2 F2 HG
  obtain ⟨⟨c0, c1, c2, c3, c4, c5, c6, c7, c8, c9⟩, hap⟩ := (unhide A0).at0
  have HAP := hide hap
  clear hap
  go_wp2_with fail
  refine (unhide HAP).mono ?_
  rintro e v0 ⟨fo0, fn0, fc0, ho0, hn0, hc0, rfl, hf, ha⟩
  have G0 := hide hf
  have B0 := hide ha
  clear HAP hf ha c0 c1 c2 c3 c4 c5 c6 c7 c8 c9
  have A1 := hide ((unhide B0).fr (box1 v0 (.cells #[.int .u32 0, .int .u32 0, .int .u8 0, .int .u32 1, .int .u32 1, .slice fo0 fn0 fc0, .slice ho0 hn0 hc0] 47)))
  obtain ⟨c0, c1, c2, c3, c4, c5, c6, c7, c8, c9⟩ := (unhide B0).at1.1
  have HAP := hide (unhide A1).at1.2
  have hgl : g < v0.heap.size := lt_of_cell c0
  go_wp2_with fail
  refine (unhide HAP).mono ?_
  rintro e v1 ⟨fo1, fn1, fc1, ho1, hn1, hc1, rfl, hf, ha⟩
  have G1 := hide hf
  have B1 := hide ha
  clear HAP hf ha c0 c1 c2 c3 c4 c5 c6 c7 c8 c9 hgl
  have A2 := hide ((unhide B1).fr (box1 v1 (.cells #[.int .u32 0, .int .u32 0, .int .u8 0, .int .u32 1, .int .u32 2, .slice fo1 fn1 fc1, .slice ho1 hn1 hc1] 47)))
  obtain ⟨c0, c1, c2, c3, c4, c5, c6, c7, c8, c9⟩ := (unhide B1).at2.1
  have HAP := hide (unhide A2).at2.2
  have hgl : g < v1.heap.size := lt_of_cell c0
  go_wp2_with fail
  refine (unhide HAP).mono ?_
  rintro e v2 ⟨fo2, fn2, fc2, ho2, hn2, hc2, rfl, hf, ha⟩
  have G2 := hide hf
  have B2 := hide ha
  clear HAP hf ha c0 c1 c2 c3 c4 c5 c6 c7 c8 c9 hgl
  have t0 := fun k => ((unhide B0).t k)
  have t1 := fun k => ((unhide B1).t k)
  have p01 : v1.heap[v0.heap.size]? = some (.cells #[.int .u32 0, .int .u32 0, .int .u8 0, .int .u32 1, .int .u32 1, .slice fo0 fn0 fc0, .slice ho0 hn0 hc0] 47) := ((unhide G1).block v0.heap.size (by simp) (fun hT => by have := (t0 _ hT).2.1; omega)).trans Array.getElem?_push_size
  have p0 : v2.heap[v0.heap.size]? = some (.cells #[.int .u32 0, .int .u32 0, .int .u8 0, .int .u32 1, .int .u32 1, .slice fo0 fn0 fc0, .slice ho0 hn0 hc0] 47) := ((unhide G2).block v0.heap.size (by have := lt_of_block p01; simp; omega) (fun hT => by
    have h1 := lt_of_block p01
    rcases hT with hT | hT
    · have := (t0 _ hT).2.1; omega
    · simp at hT; omega)).trans (((box1 v1 (.cells #[.int .u32 0, .int .u32 0, .int .u8 0, .int .u32 1, .int .u32 2, .slice fo1 fn1 fc1, .slice ho1 hn1 hc1] 47)).block _ (lt_of_block p01) (fun h => h)).trans p01)
  have p1 : v2.heap[v1.heap.size]? = some (.cells #[.int .u32 0, .int .u32 0, .int .u8 0, .int .u32 1, .int .u32 2, .slice fo1 fn1 fc1, .slice ho1 hn1 hc1] 47) := ((unhide G2).block v1.heap.size (by simp) (fun hT => by have := (t1 _ hT).2.1; omega)).trans Array.getElem?_push_size
  obtain ⟨_, _, a2, a3, a4, _, _⟩ := blk7 p0
  obtain ⟨_, _, b2, b3, b4, _, _⟩ := blk7 p1
  have hl0 := lt_of_block p0
  have hl1 := lt_of_block p1
  have HRc := hide (records_B b _ _ _ ((unhide B2).fr (box1 v2 (.cells #[.int .u32 0, .int .u32 0, .int .u8 5, .int .u32 0, .int .u32 0, .slice fo2 fn2 fc2, .slice ho2 hn2 hc2] 47))).r)
  have HF := hide ((unhide B2).f)
  clear t0 t1 p01 p0 p1 A0 A1 A2 B0 B1 B2 G0 G1 G2
  go_wp2_with fail
  refine (unhide HRc).mono ?_
  rintro e w' ⟨rfl, rfl⟩
  go_wp2_with fail
  go_ret
  exact ⟨rfl, (unhide HF).trans (box1 v2 _) (fun _ _ h => h)⟩
end Go.Proofs.YtciblhmmpamjoaaGreatDoor

namespace Go.Proofs.YtciblhmmpamjoaaGreatDoor
open Go.RowKit Go.Shelf

theorem own_z {w : World} {base e size n : Nat} {v : Value} {xs : List Value} (h : w.ownsRow base e size v n xs) : ∀ n c, v = .slice none n c → c = 0 := by
  rcases h.2 with ⟨rfl, rfl⟩ | ⟨g, cap, cur, rfl, _⟩
  · intro n c e; cases e; rfl
  · intro n c e; cases e
theorem Us.lt {w : World} {x : Value} {l : List Nat} (h : Us w x l) : ∀ g o n c, x = .slice (some ⟨g, o, none⟩) n c → 0 < n → g < w.heap.size := by
  intro g o n c e h0
  rcases h with ⟨a, c', e2, _⟩ | ⟨g', o', c', e2, h2⟩
  · rw [e] at e2; cases e2; omega
  · rw [e] at e2; cases e2; exact lt_of_cell (h2 0 h0)
end Go.Proofs.YtciblhmmpamjoaaGreatDoor

namespace Go.Proofs.YtciblhmmpamjoaaGreatDoor
open Go.ChangeShapes Go.WideShapes Go.ChangeAt Go.RowKit
set_option maxRecDepth 100000

theorem Tryz.ownKnob : ownKnob Tryz.prog.godebug = none := by kernel_rfl
theorem Fr.below {w w' : World} (h : Fr (fun _ => False) w w') : Below w.heap.size w w' := ⟨h.os, h.tape, h.output, h.size, fun k hk => h.block k hk (fun x => x)⟩
theorem laid_in {W : World} : ∀ {l : List (String × DataW Unit)} {ps : List MemPlace}, DataW.LaidVars Tryz.prog W l ps → ∀ {nm : String} {d : DataW Unit}, (nm, d) ∈ l →
    ∃ g t cs fuel p, Tryz.prog.globalNamed nm = some g ∧ (Tryz.prog.globals[g]?).map (·.type) = some t ∧ W.var? Tryz.prog nm = some cs ∧ DataW.trod (H := Unit) (fun _ => ()) Tryz.prog W 0 (fun _ => true) false fuel t cs.toList = some (d, p) ∧ ∀ x ∈ MemPlace.row ⟨g, 0, none⟩ cs.size, x ∈ ps := by
  intro l
  induction l with
  | nil => intro ps _ nm d hm; cases hm
  | cons y r ih =>
    intro ps h nm d hm
    obtain ⟨n, dd⟩ := y
    obtain ⟨g, t, cs, fuel, p, q, hg, ht, hv, hd, hr, rfl⟩ := h
    rcases List.mem_cons.1 hm with e | hm
    · cases e
      exact ⟨g, t, cs, fuel, p, hg, ht, hv, hd, fun x hx => by simp [hx]⟩
    · obtain ⟨g', t', cs', fuel', p', a1, a2, a3, a4, a5⟩ := ih hr hm
      exact ⟨g', t', cs', fuel', p', a1, a2, a3, a4, fun x hx => by simp [a5 x hx]⟩
/-- What is listed, piece by piece. -/
def aggL : DataW Unit → List (DataW Unit)
  | .agg l => l
  | _ => []
def mOf : DataW Unit → Option Int
  | .agg (_ :: .lit (.int .u8 z) :: _) => some z
  | _ => none
def lit1 : DataW Unit → Value
  | .lit (.string l) => .string ⟨l.toArray⟩
  | .lit (.int k z) => .int k z
  | _ => undef
theorem units_m : (aggL Rows.laid_almoner_quant_units).map mOf = measL.map (fun m : Nat => some (m : Int)) := by kernel_rfl
theorem Tryz.cellsRow : Tryz.prog.cellsOf 290 = 5 := by kernel_rfl
theorem Tryz.cellsU8 : Tryz.prog.cellsOf 5 = 1 := by kernel_rfl
theorem gu_of_laid {W : World} {laid : List (String × DataW Unit)} (hL : laidMet Tryz.prog laid W) (hm : ("almoner/quant.units", Rows.laid_almoner_quant_units) ∈ laid) : GU W := by
  intro i hi
  obtain ⟨ps, hv, _, _⟩ := hL
  obtain ⟨g', t', cs, fuel, p, a1, a2, a3, a4, _⟩ := laid_in hv hm
  have hg : Tryz.prog.globalNamed "almoner/quant.units" = some 7 := by kernel_rfl
  obtain rfl := Option.some.inj (hg.symm.trans a1)
  obtain rfl := Option.some.inj ((show (Tryz.prog.globals[7]?).map (·.type) = some 291 by kernel_rfl).symm.trans a2)
  obtain ⟨xs, m, _, hx, _, hlen, hall⟩ := DataW.trod_array Tryz.underlying291 a4
  simp only [Prod.mk.injEq] at hx
  have h1 := hall i hi
  obtain ⟨y, hy⟩ : ∃ y, xs[i]? = some y := ⟨xs[i], List.getElem?_eq_getElem (by omega)⟩
  have hmi : mOf y.1 = some ((measL.getD i 0 : Nat) : Int) := by
    have e := units_m
    rw [hx.1] at e
    have e2 := congrArg (fun l => l[i]?) e
    have hml : i < measL.length := hi
    simp only [aggL, List.getElem?_map, hy, Option.map_some, List.getElem?_eq_getElem hml, Option.some.injEq] at e2
    rw [e2, List.getD, List.getElem?_eq_getElem hml, Option.getD_some]
  rw [Tryz.cellsRow, hy] at h1
  obtain ⟨ys, n, _, hy2, _, hlen2, hf⟩ := DataW.trod_struct Tryz.underlying290 h1
  have h2 := hf 1 _ rfl
  rw [hy2] at hmi
  have hl5 : ys.length = 5 := hlen2
  rcases ys with _ | ⟨y0, _ | ⟨y1, r⟩⟩
  · simp at hl5
  · simp at hl5
  · obtain ⟨v, e1, e2, _⟩ := DataW.trod_int Tryz.underlying5 h2
    rw [e2] at hmi
    simp only [List.map_cons, mOf, Option.some.injEq] at hmi
    subst hmi
    have e1' : ((((cs.toList.drop (i * 5)).take 5).drop 1).take (Tryz.prog.cellsOf 5)) = [.int .u8 ((measL.getD i 0 : Nat) : Int)] := e1
    rw [Tryz.cellsU8] at e1'
    have e3 := congrArg List.head? e1'
    simp only [List.head?_eq_getElem?, List.getElem?_take, List.getElem?_drop] at e3
    rw [World.var?_cell hg a3 (i * 5 + 1)]
    simpa using e3
noncomputable def uWorld (os : Os) : World :=
  let w0 := World.holding Tryz.prog os ⟨#[], #[], []⟩
  { w0 with heap := w0.heap.modify 7 fun
      | .cells _ t frozen => .cells ((aggL Rows.laid_almoner_quant_units).flatMap fun d => (aggL d).map lit1).toArray t frozen
      | o => o }
end Go.Proofs.YtciblhmmpamjoaaGreatDoor

namespace Go.Proofs.YtciblhmmpamjoaaGreatDoor
open Go.ChangeShapes Go.WideShapes Go.ChangeAt Go.RowKit Go.Deep
set_option maxRecDepth 100000

theorem nat_u32 {a : Int} (h : (Lit.int .u32 a).wf = true) : ∃ n : Nat, a = n ∧ n < 4294967296 := ⟨a.toNat, by have := bounds_u32 h; omega, by have := bounds_u32 h; omega⟩
theorem nat_u8 {a : Int} (h : (Lit.int .u8 a).wf = true) : ∃ n : Nat, a = n ∧ n < 256 := ⟨a.toNat, by have := bounds_u8 h; omega, by have := bounds_u8 h; omega⟩
theorem bulk_pos {H : Type} (d : DataW H) : 1 ≤ Rows.uptoBulk d := by
  unfold Rows.uptoBulk
  split <;> omega
theorem bulk_len {H : Type} : ∀ l : List (DataW H), l.length ≤ Rows.uptoBulkAll l
  | [] => Nat.zero_le _
  | d :: r => by
    have h1 := bulk_pos d
    have h2 := bulk_len r
    simp only [Rows.uptoBulkAll, List.length_cons]
    omega
theorem bulk_in {H : Type} : ∀ (l : List (DataW H)) (d : DataW H), d ∈ l → Rows.uptoBulk d ≤ Rows.uptoBulkAll l
  | [], d, h => by cases h
  | x :: r, d, h => by
    simp only [Rows.uptoBulkAll]
    rcases List.mem_cons.1 h with rfl | h
    · omega
    · have := bulk_in r d h
      omega
theorem Tryz.cellsU32 : Tryz.prog.cellsOf 22 = 1 := by kernel_rfl
theorem Tryz.cellsF32 : Tryz.prog.cellsOf 54 = 1 := by kernel_rfl
theorem Tryz.cellsStr : Tryz.prog.cellsOf 9 = 1 := by kernel_rfl
theorem Tryz.cellsSt : Tryz.prog.cellsOf 41 = 3 := by kernel_rfl
theorem Tryz.cellsFd : Tryz.prog.cellsOf 56 = 5 := by kernel_rfl
theorem p3_of_trod {H : Type} {enc : TypeId × Value → H} {W : World} {fuel : Nat} {cs : List Value} {x : DataW H × List MemPlace} (h : DataW.trod enc Tryz.prog W 0 (fun _ => true) true fuel 41 cs = some x) :
    ∃ s : P3, cs = [.int .u32 (s.a : Nat), .int .u32 (s.r : Nat), .int .u32 (s.w : Nat)] := by
  obtain ⟨xs, n, _, rfl, hl, hlen, hf⟩ := DataW.trod_struct Tryz.underlying41 h
  rw [Tryz.cellsSt] at hl
  have h0 := hf 0 _ rfl
  have h1 := hf 1 _ rfl
  have h2 := hf 2 _ rfl
  match cs, hl with
  | [c0, c1, c2], _ =>
    match xs, hlen with
    | [y0, y1, y2], _ =>
      simp [Tryz.cellsU32] at h0 h1 h2
      obtain ⟨a, e0, rfl, wa⟩ := DataW.trod_int Tryz.underlying22 h0
      obtain ⟨b, e1, rfl, wb⟩ := DataW.trod_int Tryz.underlying22 h1
      obtain ⟨c, e2, rfl, wc⟩ := DataW.trod_int Tryz.underlying22 h2
      simp only [List.cons.injEq, and_true] at e0 e1 e2
      subst e0 e1 e2
      obtain ⟨a, rfl, _⟩ := nat_u32 wa
      obtain ⟨b, rfl, _⟩ := nat_u32 wb
      obtain ⟨c, rfl, _⟩ := nat_u32 wc
      exact ⟨⟨a, b, c⟩, rfl⟩
theorem stf_of_trod {H : Type} {enc : TypeId × Value → H} {W : World} {fuel : Nat} {v : Value} {x : DataW H × List MemPlace} (hf : DataW.trod enc Tryz.prog W 0 (fun _ => true) true fuel 32 [v] = some x) :
    ∃ A : List P3, Stf W v A ∧ A.length + 1 ≤ Rows.uptoBulk x.1 := by
  rcases open_slice Tryz.underlying32 hf with ⟨hcs, hx⟩ | ⟨a, len', cap', m, n, D, Pl, hcs, _, hl, hm, hmm, hx, hel⟩
  · simp only [List.cons.injEq, and_true] at hcs
    subst hcs
    exact ⟨[], .inl ⟨none, 0, rfl, rfl⟩, bulk_pos _⟩
  · simp only [List.cons.injEq, and_true] at hcs
    subst hcs
    subst hx
    simp only [if_true] at hmm
    subst hmm
    have hp : ∀ i, ∃ s : P3, i < m → ∀ j, j < 3 → W.cell? ((a.add (i * 3)).add j) = [Value.int .u32 (s.a : Nat), .int .u32 (s.r : Nat), .int .u32 (s.w : Nat)][j]? := fun i => by
      by_cases hi : i < m
      · obtain ⟨cs', h1, h2⟩ := hel i hi
        rw [Tryz.cellsSt] at h1
        obtain ⟨_, hlen, hcell⟩ := World.cells?_some h1
        obtain ⟨s, rfl⟩ := p3_of_trod h2
        exact ⟨s, fun _ => hcell⟩
      · exact ⟨⟨0, 0, 0⟩, fun h => absurd h hi⟩
    obtain ⟨Q, hQ⟩ : ∃ Q : Nat → P3, ∀ i, i < m → ∀ j, j < 3 → W.cell? ((a.add (i * 3)).add j) = [Value.int .u32 ((Q i).a : Nat), .int .u32 ((Q i).r : Nat), .int .u32 ((Q i).w : Nat)][j]? := ⟨fun i => Classical.choose (hp i), fun i => Classical.choose_spec (hp i)⟩
    have hbulk := bulk_len ((List.range len').map D)
    have hd : Rows.uptoBulkAll ((List.range len').map D) + 1 ≤ Rows.uptoBulk (DataW.slice ((List.range len').map D) ((List.range (m - len')).map fun j => D (len' + j)) : DataW H) := by
      simp only [Rows.uptoBulk]; omega
    refine ⟨(List.range len').map Q, ?_, by simp at hbulk ⊢; omega⟩
    by_cases h0 : len' = 0
    · subst h0
      exact .inl ⟨some a, m, by simp, by simp⟩
    · have hc0 := hQ 0 (by omega) 0 (by decide)
      obtain ⟨g, o, sp⟩ := a
      have hsp : sp = none := by simpa [Addr.add] using World.cell?_spot hc0
      subst hsp
      refine .inr ⟨g, o, m, by simp, fun j hj => ?_⟩
      have hj' : j < len' := by simpa using hj
      have hq := hQ j (by omega)
      have e : ∀ i, ((⟨g, o, none⟩ : Addr).add (j * 3)).add i = ⟨g, o + j * 3 + i, none⟩ := fun i => by rw [addr_add, addr_add]
      have q0 := hq 0 (by decide)
      have q1 := hq 1 (by decide)
      have q2 := hq 2 (by decide)
      rw [e] at q0 q1 q2
      simp at q0 q1 q2
      simp only [List.getElem_map, List.getElem_range]
      exact ⟨q0, q1, q2⟩
theorem us_of_trod {H : Type} {enc : TypeId × Value → H} {W : World} {fuel : Nat} {v : Value} {x : DataW H × List MemPlace} (hf : DataW.trod enc Tryz.prog W 0 (fun _ => true) true fuel 34 [v] = some x) :
    ∃ l : List Nat, Us W v l ∧ l.length + 1 ≤ Rows.uptoBulk x.1 := by
  rcases open_ints Tryz.underlying34 Tryz.underlying22 Tryz.cellsU32 hf with ⟨hcs, hx⟩ | ⟨a, len, cap, zs, hcs, _, hl, hm, hz, hx, hcell, hwz⟩
  · simp only [List.cons.injEq, and_true] at hcs
    subst hcs
    exact ⟨[], .inl ⟨none, 0, rfl, rfl⟩, bulk_pos _⟩
  · simp only [List.cons.injEq, and_true] at hcs
    subst hcs
    subst hx
    simp only [if_true] at hz
    have hlen : ((zs.take len).map Int.toNat).length = len := by simp; omega
    have hbulk : len + 1 ≤ Rows.uptoBulk (DataW.slice (lits .u32 (zs.take len)) (lits .u32 (zs.drop len)) : DataW H) := by
      have h1 := bulk_len (lits .u32 (zs.take len) : List (DataW H))
      have h2 : (lits .u32 (zs.take len) : List (DataW H)).length = len := by simp [lits]; omega
      simp only [Rows.uptoBulk]
      omega
    by_cases h0 : len = 0
    · subst h0
      exact ⟨[], .inl ⟨some a, cap, rfl, rfl⟩, bulk_pos _⟩
    · obtain ⟨b, off, rfl, hc⟩ := ints_at hcell (show 0 < zs.length by omega)
      refine ⟨(zs.take len).map Int.toNat, .inr ⟨b, off, cap, by rw [hlen], fun j hj => ?_⟩, by rw [hlen]; exact hbulk⟩
      have hj' : j < len := by rw [hlen] at hj; exact hj
      rw [hc j (by omega)]
      have hw := bounds_u32 (hwz (zs.getD j 0) (by simp [List.getD, show j < zs.length by omega]))
      simp [show j < zs.length by omega] at hw ⊢
      omega
theorem trod_floatw {H : Type} {enc : TypeId × Value → H} {P : Program} {w : World} {base : Nat} {spare : Nat → Bool} {held : Bool} {fuel : Nat} {t : TypeId} {cs : List Value} {x : DataW H × List MemPlace} (ht : P.underlying t = some (.float .f32)) (h : DataW.trod enc P w base spare held fuel t cs = some x) : ∃ b, cs = [.float .f32 b] ∧ b < 4294967296 := by
  cases fuel with
  | zero => simp [DataW.trod] at h
  | succ n =>
    unfold DataW.trod at h
    rw [ht] at h
    split at h <;> simp_all [Lit.wf]
    rename_i k' b hk
    subst hk
    by_cases hh : k' = FloatKind.f32 ∧ decide (b < 4294967296) = true
    · exact ⟨_, ⟨hh.1, rfl⟩, of_decide_eq_true hh.2⟩
    · exact absurd ((if_neg hh).symm.trans h) (by simp)
theorem f5_of_trod {H : Type} {enc : TypeId × Value → H} {W : World} {fuel : Nat} {cs : List Value} {x : DataW H × List MemPlace} (h : DataW.trod enc Tryz.prog W 0 (fun _ => true) true fuel 56 cs = some x) :
    ∃ s : F5, (s.v < 4294967296 ∧ s.u < 256) ∧ cs = [.string s.n, .int .u8 (s.k : Nat), .string s.t, .float .f32 s.v, .int .u8 (s.u : Nat)] := by
  obtain ⟨xs, n, _, rfl, hl, hlen, hf⟩ := DataW.trod_struct Tryz.underlying56 h
  rw [Tryz.cellsFd] at hl
  have h0 := hf 0 _ rfl
  have h1 := hf 1 _ rfl
  have h2 := hf 2 _ rfl
  have h3 := hf 3 _ rfl
  have h4 := hf 4 _ rfl
  match cs, hl with
  | [c0, c1, c2, c3, c4], _ =>
    match xs, hlen with
    | [y0, y1, y2, y3, y4], _ =>
      simp [Tryz.cellsU8, Tryz.cellsStr, Tryz.cellsF32] at h0 h1 h2 h3 h4
      obtain ⟨a, e0, rfl, _⟩ := DataW.trod_string Tryz.underlying9 h0
      obtain ⟨b, e1, rfl, wb⟩ := DataW.trod_int Tryz.underlying5 h1
      obtain ⟨c, e2, rfl, _⟩ := DataW.trod_string Tryz.underlying9 h2
      obtain ⟨d, e3, wd⟩ := trod_floatw Tryz.underlying54 h3
      obtain ⟨e, e4, rfl, we⟩ := DataW.trod_int Tryz.underlying5 h4
      simp only [List.cons.injEq, and_true] at e0 e1 e2 e3 e4
      subst e0 e1 e2 e3 e4
      obtain ⟨b, rfl, _⟩ := nat_u8 wb
      obtain ⟨e, rfl, he⟩ := nat_u8 we
      exact ⟨⟨a, b, c, d, e⟩, ⟨wd, he⟩, rfl⟩
/-- Fields that came in. -/
theorem fdc_of_trod {H : Type} {enc : TypeId × Value → H} {W : World} {fuel : Nat} {v : Value} {x : DataW H × List MemPlace} (hf : DataW.trod enc Tryz.prog W 0 (fun _ => true) true fuel 25 [v] = some x) :
    ∃ A : List F5, FdC W W.heap.size v A ∧ (∀ f ∈ A, f.v < 4294967296 ∧ f.u < 256) ∧ A.length + 1 ≤ Rows.uptoBulk x.1 := by
  rcases open_slice Tryz.underlying25 hf with ⟨hcs, hx⟩ | ⟨a, len', cap', m, n, D, Pl, hcs, _, hl, hm, hmm, hx, hel⟩
  · simp only [List.cons.injEq, and_true] at hcs
    subst hcs
    exact ⟨[], ⟨.inl ⟨none, 0, rfl, rfl⟩, fun g o n c e => by (cases e), fun xo n c e => by (cases e; omega), fun n c e => by (cases e; rfl)⟩, fun f hf => (by cases hf), bulk_pos _⟩
  · simp only [List.cons.injEq, and_true] at hcs
    subst hcs
    subst hx
    simp only [if_true] at hmm
    subst hmm
    have hp : ∀ i, ∃ s : F5, (s.v < 4294967296 ∧ s.u < 256) ∧ (i < m → ∀ j, j < 5 → W.cell? ((a.add (i * 5)).add j) = [Value.string s.n, .int .u8 (s.k : Nat), .string s.t, .float .f32 s.v, .int .u8 (s.u : Nat)][j]?) := fun i => by
      by_cases hi : i < m
      · obtain ⟨cs', h1, h2⟩ := hel i hi
        rw [Tryz.cellsFd] at h1
        obtain ⟨_, hlen, hcell⟩ := World.cells?_some h1
        obtain ⟨s, hs, rfl⟩ := f5_of_trod h2
        exact ⟨s, hs, fun _ => hcell⟩
      · exact ⟨⟨ByteArray.empty, 0, ByteArray.empty, 0, 0⟩, ⟨by decide, by decide⟩, fun h => absurd h hi⟩
    obtain ⟨Q, hQb, hQ⟩ : ∃ Q : Nat → F5, (∀ i, (Q i).v < 4294967296 ∧ (Q i).u < 256) ∧ ∀ i, i < m → ∀ j, j < 5 → W.cell? ((a.add (i * 5)).add j) = [Value.string (Q i).n, .int .u8 ((Q i).k : Nat), .string (Q i).t, .float .f32 (Q i).v, .int .u8 ((Q i).u : Nat)][j]? := ⟨fun i => Classical.choose (hp i), fun i => (Classical.choose_spec (hp i)).1, fun i => (Classical.choose_spec (hp i)).2⟩
    have hbulk := bulk_len ((List.range len').map D)
    have hd : Rows.uptoBulkAll ((List.range len').map D) + 1 ≤ Rows.uptoBulk (DataW.slice ((List.range len').map D) ((List.range (m - len')).map fun j => D (len' + j)) : DataW H) := by
      simp only [Rows.uptoBulk]; omega
    suffices hfd : Fds W (.slice (some a) len' m) ((List.range len').map Q) by
      refine ⟨(List.range len').map Q, ⟨hfd, fun g o n c e h0 => ?_, fun xo n c e => by (cases e; omega), fun n c e => by (cases e)⟩, fun f hf => ?_, by simp at hbulk ⊢; omega⟩
      · cases e
        obtain ⟨g', o', e', hc'⟩ := hfd.at_ 0 (by simpa using h0)
        cases e'
        exact lt_of_cell hc'.1
      · obtain ⟨i, _, rfl⟩ := List.mem_map.1 hf
        exact hQb i
    by_cases h0 : len' = 0
    · subst h0
      exact .inl ⟨some a, m, by simp, by simp⟩
    · have hc0 := hQ 0 (by omega) 0 (by decide)
      obtain ⟨g, o, sp⟩ := a
      have hsp : sp = none := by simpa [Addr.add] using World.cell?_spot hc0
      subst hsp
      refine .inr ⟨g, o, m, by simp, fun j hj => ?_⟩
      have hj' : j < len' := by simpa using hj
      have hq := hQ j (by omega)
      have e : ∀ i, ((⟨g, o, none⟩ : Addr).add (j * 5)).add i = ⟨g, o + j * 5 + i, none⟩ := fun i => by rw [addr_add, addr_add]
      have q0 := hq 0 (by decide)
      have q1 := hq 1 (by decide)
      have q2 := hq 2 (by decide)
      have q3 := hq 3 (by decide)
      have q4 := hq 4 (by decide)
      rw [e] at q0 q1 q2 q3 q4
      simp at q0 q1 q2 q3 q4
      simp only [List.getElem_map, List.getElem_range]
      exact ⟨q0, q1, q2, q3, q4⟩
end Go.Proofs.YtciblhmmpamjoaaGreatDoor

namespace Go.Proofs.YtciblhmmpamjoaaGreatDoor
open Go.ChangeShapes Go.WideShapes Go.ChangeAt Go.RowKit Go.Deep
set_option maxRecDepth 100000

theorem Tryz.cellsId : Tryz.prog.cellsOf 24 = 2 := by kernel_rfl
theorem Tryz.cellsRq : Tryz.prog.cellsOf 27 = 10 := by kernel_rfl
theorem Tryz.cellsPlay : Tryz.prog.cellsOf 36 = 3 := by kernel_rfl
theorem Tryz.cellsSls : Tryz.prog.cellsOf 32 = 1 := by kernel_rfl
theorem Tryz.cellsSlu : Tryz.prog.cellsOf 34 = 1 := by kernel_rfl
theorem Tryz.cellsSlf : Tryz.prog.cellsOf 25 = 1 := by kernel_rfl
theorem Tryz.cellsSlq : Tryz.prog.cellsOf 33 = 1 := by kernel_rfl
theorem id_of_trod {H : Type} {enc : TypeId × Value → H} {W : World} {fuel : Nat} {cs : List Value} {x : DataW H × List MemPlace} (h : DataW.trod enc Tryz.prog W 0 (fun _ => true) true fuel 24 cs = some x) :
    ∃ a b : Nat, cs = [.int .u32 (a : Nat), .int .u32 (b : Nat)] := by
  obtain ⟨xs, n, _, rfl, hl, hlen, hf⟩ := DataW.trod_struct Tryz.underlying24 h
  rw [Tryz.cellsId] at hl
  have h0 := hf 0 _ rfl
  have h1 := hf 1 _ rfl
  match cs, hl with
  | [c0, c1], _ =>
    match xs, hlen with
    | [y0, y1], _ =>
      simp [Tryz.cellsU32] at h0 h1
      obtain ⟨a, e0, rfl, wa⟩ := DataW.trod_int Tryz.underlying22 h0
      obtain ⟨b, e1, rfl, wb⟩ := DataW.trod_int Tryz.underlying22 h1
      simp only [List.cons.injEq, and_true] at e0 e1
      subst e0 e1
      obtain ⟨a, rfl, _⟩ := nat_u32 wa
      obtain ⟨b, rfl, _⟩ := nat_u32 wb
      exact ⟨a, b, rfl⟩
/-- A request that came in. -/
theorem rq_of_trod {H : Type} {enc : TypeId × Value → H} {W : World} {fuel : Nat} {cs : List Value} {x : DataW H × List MemPlace} (h : DataW.trod enc Tryz.prog W 0 (fun _ => true) true fuel 27 cs = some x) :
    ∃ (s : RQ) (F : List F5), cs = [.int .u32 (s.cl : Nat), .int .u32 (s.nu : Nat), .int .u32 (s.ac : Nat), .int .u8 (s.op : Nat), .int .u32 (s.rc : Nat), .int .u32 (s.ve : Nat), .int .u32 (s.wa : Nat), .int .u32 (s.ow : Nat), s.fv, .string s.rs] ∧ FdC W W.heap.size s.fv F ∧ s.ac < 4294967296 ∧ (∀ f ∈ F, f.v < 4294967296 ∧ f.u < 256) ∧ F.length + 1 ≤ Rows.uptoBulk x.1 := by
  obtain ⟨xs, n, _, rfl, hl, hlen, hf⟩ := DataW.trod_struct Tryz.underlying27 h
  rw [Tryz.cellsRq] at hl
  have h0 := hf 0 _ rfl
  have h1 := hf 1 _ rfl
  have h2 := hf 2 _ rfl
  have h3 := hf 3 _ rfl
  have h4 := hf 4 _ rfl
  have h5 := hf 5 _ rfl
  have h6 := hf 6 _ rfl
  have h7 := hf 7 _ rfl
  have h8 := hf 8 _ rfl
  match cs, hl with
  | [c0, c1, c2, c3, c4, c5, c6, c7, c8, c9], _ =>
    match xs, hlen with
    | [y0, y1, y2, y3, y4, y5, y6, y7, y8], _ =>
      simp [Tryz.cellsU32, Tryz.cellsU8, Tryz.cellsId, Tryz.cellsSlf, Tryz.cellsStr] at h0 h1 h2 h3 h4 h5 h6 h7 h8
      obtain ⟨cl, nu, e0⟩ := id_of_trod h0
      obtain ⟨ac, e1, q1, w1⟩ := DataW.trod_int Tryz.underlying22 h1
      obtain ⟨op, e2, q2, w2⟩ := DataW.trod_int Tryz.underlying5 h2
      obtain ⟨rc, e3, q3, w3⟩ := DataW.trod_int Tryz.underlying22 h3
      obtain ⟨ve, e4, q4, w4⟩ := DataW.trod_int Tryz.underlying22 h4
      obtain ⟨wa, e5, q5, w5⟩ := DataW.trod_int Tryz.underlying22 h5
      obtain ⟨ow, e6, q6, w6⟩ := DataW.trod_int Tryz.underlying22 h6
      obtain ⟨F, hF, hFb, bF⟩ := fdc_of_trod h7
      obtain ⟨rs, e8, q8, _⟩ := DataW.trod_string Tryz.underlying9 h8
      simp only [List.cons.injEq, and_true] at e0 e1 e2 e3 e4 e5 e6 e8
      obtain ⟨rfl, rfl⟩ := e0
      subst e1 e2 e3 e4 e5 e6 e8
      obtain ⟨ac, rfl, hac⟩ := nat_u32 w1
      obtain ⟨op, rfl, _⟩ := nat_u8 w2
      obtain ⟨rc, rfl, _⟩ := nat_u32 w3
      obtain ⟨ve, rfl, _⟩ := nat_u32 w4
      obtain ⟨wa, rfl, _⟩ := nat_u32 w5
      obtain ⟨ow, rfl, _⟩ := nat_u32 w6
      refine ⟨⟨cl, nu, ac, op, rc, ve, wa, ow, c8, rs⟩, F, rfl, hF, hac, hFb, ?_⟩
      have := bulk_in ([y0, y1, y2, y3, y4, y5, y6, y7, y8].map (·.1)) y7.1 (by simp)
      simp only [Rows.uptoBulk]
      omega
end Go.Proofs.YtciblhmmpamjoaaGreatDoor

namespace Go.Proofs.YtciblhmmpamjoaaGreatDoor
open Go.ChangeShapes Go.WideShapes Go.ChangeAt Go.RowKit Go.Deep
set_option maxRecDepth 100000

/-- A request that came in. -/
theorem rq_of_trodV {H : Type} {enc : TypeId × Value → H} {W : World} {fuel : Nat} {cs : List Value} {x : DataW H × List MemPlace} (h : DataW.trod enc Tryz.prog W 0 (fun _ => true) true fuel 27 cs = some x) :
    ∃ (s : RQ) (F : List F5), cs = [.int .u32 (s.cl : Nat), .int .u32 (s.nu : Nat), .int .u32 (s.ac : Nat), .int .u8 (s.op : Nat), .int .u32 (s.rc : Nat), .int .u32 (s.ve : Nat), .int .u32 (s.wa : Nat), .int .u32 (s.ow : Nat), s.fv, .string s.rs] ∧ FdC W W.heap.size s.fv F ∧ s.ac < 4294967296 ∧ s.ve < 4294967296 ∧ (∀ f ∈ F, f.v < 4294967296 ∧ f.u < 256) ∧ F.length + 1 ≤ Rows.uptoBulk x.1 := by
  obtain ⟨xs, n, _, rfl, hl, hlen, hf⟩ := DataW.trod_struct Tryz.underlying27 h
  rw [Tryz.cellsRq] at hl
  have h0 := hf 0 _ rfl
  have h1 := hf 1 _ rfl
  have h2 := hf 2 _ rfl
  have h3 := hf 3 _ rfl
  have h4 := hf 4 _ rfl
  have h5 := hf 5 _ rfl
  have h6 := hf 6 _ rfl
  have h7 := hf 7 _ rfl
  have h8 := hf 8 _ rfl
  match cs, hl with
  | [c0, c1, c2, c3, c4, c5, c6, c7, c8, c9], _ =>
    match xs, hlen with
    | [y0, y1, y2, y3, y4, y5, y6, y7, y8], _ =>
      simp [Tryz.cellsU32, Tryz.cellsU8, Tryz.cellsId, Tryz.cellsSlf, Tryz.cellsStr] at h0 h1 h2 h3 h4 h5 h6 h7 h8
      obtain ⟨cl, nu, e0⟩ := id_of_trod h0
      obtain ⟨ac, e1, q1, w1⟩ := DataW.trod_int Tryz.underlying22 h1
      obtain ⟨op, e2, q2, w2⟩ := DataW.trod_int Tryz.underlying5 h2
      obtain ⟨rc, e3, q3, w3⟩ := DataW.trod_int Tryz.underlying22 h3
      obtain ⟨ve, e4, q4, w4⟩ := DataW.trod_int Tryz.underlying22 h4
      obtain ⟨wa, e5, q5, w5⟩ := DataW.trod_int Tryz.underlying22 h5
      obtain ⟨ow, e6, q6, w6⟩ := DataW.trod_int Tryz.underlying22 h6
      obtain ⟨F, hF, hFb, bF⟩ := fdc_of_trod h7
      obtain ⟨rs, e8, q8, _⟩ := DataW.trod_string Tryz.underlying9 h8
      simp only [List.cons.injEq, and_true] at e0 e1 e2 e3 e4 e5 e6 e8
      obtain ⟨rfl, rfl⟩ := e0
      subst e1 e2 e3 e4 e5 e6 e8
      obtain ⟨ac, rfl, hac⟩ := nat_u32 w1
      obtain ⟨op, rfl, _⟩ := nat_u8 w2
      obtain ⟨rc, rfl, _⟩ := nat_u32 w3
      obtain ⟨ve, rfl, hve⟩ := nat_u32 w4
      obtain ⟨wa, rfl, _⟩ := nat_u32 w5
      obtain ⟨ow, rfl, _⟩ := nat_u32 w6
      refine ⟨⟨cl, nu, ac, op, rc, ve, wa, ow, c8, rs⟩, F, rfl, hF, hac, hve, hFb, ?_⟩
      have := bulk_in ([y0, y1, y2, y3, y4, y5, y6, y7, y8].map (·.1)) y7.1 (by simp)
      simp only [Rows.uptoBulk]
      omega
/-- A request that came in, as a parameter. -/
theorem rq_of_reading {H : Type} {enc : TypeId × Value → H} {W : World} {base : Nat} {v : Value} {d : DataW H} {p : List MemPlace} (hval : Value.okWide Tryz.prog W .any base 27 v) (h : DataW.Trod enc Tryz.prog W 0 (fun _ => true) true 27 v d p) :
    ∃ (s : RQ) (F : List F5), v = s.v ∧ FdC W W.heap.size s.fv F ∧ s.ac < 4294967296 ∧ s.ve < 4294967296 ∧ (∀ f ∈ F, f.v < 4294967296 ∧ f.u < 256) ∧ F.length + 1 ≤ Rows.uptoBulk d := by
  obtain ⟨cs, rfl, hsz⟩ := okWide_struct Tryz.underlying27 hval
  obtain ⟨fuel, hf0⟩ := h
  obtain ⟨s, F, e, hF, h1, h2, h3, h4⟩ := rq_of_trodV hf0
  refine ⟨s, F, ?_, hF, h1, h2, h3, h4⟩
  obtain ⟨l⟩ := cs
  have hc : (Value.agg ⟨l⟩).cells.toList = l := rfl
  rw [hc] at e
  rw [e]
  rfl
end Go.Proofs.YtciblhmmpamjoaaGreatDoor

namespace Go.Proofs.YtciblhmmpamjoaaGreatDoor
open Go.RowKit Go.Shelf

/-- A whole request is stored into a new box. -/
theorem req_put {W : World} {g : Nat} {z0 z1 z2 z3 z4 z5 z6 z7 z8 z9 : Value} (hb : W.heap[g]? = some (.cells #[z0, z1, z2, z3, z4, z5, z6, z7, z8, z9] 27)) (r : RQ) (hf : r.fv.oneCell' = true) :
    ∃ W8, (Instr.storeAt 27 (.pointer (some ⟨g, 0, none⟩)) (.agg r.cs)).run Tryz.prog W = .ok () W8 ∧ W8.heap[g]? = some (.cells r.cs 27) ∧ Fr (fun k => k = g) W W8 := by
  obtain ⟨c0, c1, c2, c3, c4, c5, c6, c7, c8, c9⟩ := r
  simp only [RQ.cs] at hf ⊢
  generalize he : ([.int .u32 (c0 : Nat), .int .u32 (c1 : Nat), .int .u32 (c2 : Nat), .int .u8 (c3 : Nat), .int .u32 (c4 : Nat), .int .u32 (c5 : Nat), .int .u32 (c6 : Nat), .int .u32 (c7 : Nat), c8, .string c9] : List Value) = cs
  have h1 : ∀ v ∈ cs, v.oneCell' = true := by
    rw [← he]
    intro v hv
    simp at hv
    rcases hv with rfl | rfl | rfl | rfl | rfl | rfl | rfl | rfl | rfl | rfl <;> first | rfl | exact hf
  have hr := run_storeAt_mid (P := Tryz.prog) W g 0 27 cs.toArray (fun i hi => by
    have hi : i < cs.length := by simpa using hi
    rw [← he] at hi
    simp only [List.length_cons, List.length_nil] at hi
    refine ⟨?_, by simp [World.frozen?, hb]⟩
    rcases i with _ | _ | _ | _ | _ | _ | _ | _ | _ | _ | i
    · simp [World.cell?, hb]
    · simp [World.cell?, hb]
    · simp [World.cell?, hb]
    · simp [World.cell?, hb]
    · simp [World.cell?, hb]
    · simp [World.cell?, hb]
    · simp [World.cell?, hb]
    · simp [World.cell?, hb]
    · simp [World.cell?, hb]
    · simp [World.cell?, hb]
    · omega) (by rw [← he]; kernel_rfl) (all_oneCell_toArray h1)
  refine ⟨W.setCells g 0 cs, hr, ?_, ?_⟩
  · rw [← he]
    have k0 := heap_setCell_same W g 0 #[z0, z1, z2, z3, z4, z5, z6, z7, z8, z9] 27 (.int .u32 (c0 : Nat)) hb
    have k1 := heap_setCell_same _ g 1 _ 27 (.int .u32 (c1 : Nat)) k0
    have k2 := heap_setCell_same _ g 2 _ 27 (.int .u32 (c2 : Nat)) k1
    have k3 := heap_setCell_same _ g 3 _ 27 (.int .u8 (c3 : Nat)) k2
    have k4 := heap_setCell_same _ g 4 _ 27 (.int .u32 (c4 : Nat)) k3
    have k5 := heap_setCell_same _ g 5 _ 27 (.int .u32 (c5 : Nat)) k4
    have k6 := heap_setCell_same _ g 6 _ 27 (.int .u32 (c6 : Nat)) k5
    have k7 := heap_setCell_same _ g 7 _ 27 (.int .u32 (c7 : Nat)) k6
    have k8 := heap_setCell_same _ g 8 _ 27 c8 k7
    have k9 := heap_setCell_same _ g 9 _ 27 (.string c9) k8
    simp only [List.setIfInBounds_toArray, List.set_cons_zero, List.set_cons_succ] at k9
    exact k9
  · rw [← he]
    have f0 := (Fr.refl (fun k => k = g) W).setCell (p := ⟨g, 0, none⟩) (.inl rfl) (.int .u32 (c0 : Nat))
    have f1 := f0.setCell (p := ⟨g, 1, none⟩) (.inl rfl) (.int .u32 (c1 : Nat))
    have f2 := f1.setCell (p := ⟨g, 2, none⟩) (.inl rfl) (.int .u32 (c2 : Nat))
    have f3 := f2.setCell (p := ⟨g, 3, none⟩) (.inl rfl) (.int .u8 (c3 : Nat))
    have f4 := f3.setCell (p := ⟨g, 4, none⟩) (.inl rfl) (.int .u32 (c4 : Nat))
    have f5 := f4.setCell (p := ⟨g, 5, none⟩) (.inl rfl) (.int .u32 (c5 : Nat))
    have f6 := f5.setCell (p := ⟨g, 6, none⟩) (.inl rfl) (.int .u32 (c6 : Nat))
    have f7 := f6.setCell (p := ⟨g, 7, none⟩) (.inl rfl) (.int .u32 (c7 : Nat))
    have f8 := f7.setCell (p := ⟨g, 8, none⟩) (.inl rfl) c8
    exact f8.setCell (p := ⟨g, 9, none⟩) (.inl rfl) (.string c9)
end Go.Proofs.YtciblhmmpamjoaaGreatDoor

namespace Go.Proofs.YtciblhmmpamjoaaGreatDoor
open Go.RowKit Go.Shelf

theorem eql_id (a b : Nat) (w : World) : (binOp .eql 24 (.agg #[.int .u32 (a : Nat), .int .u32 (b : Nat)]) (.agg #[.int .u32 (a : Nat), .int .u32 (b : Nat)])).run Tryz.prog w = .ok (.bool true) w := by
  rw [run_eql_struct, show (10000 : Nat) = 9999 + 1 from rfl, run_equalIn_agg _ 9999 _ _ _ Tryz.fields_id Tryz.held_id]
  simp [Program.fieldsOf, Tryz.underlying24, Op.eqFields, go_sem]
/-- The mark behind a request's fields. -/
def mkF : F5 := ⟨⟨#[109, 97, 114, 107]⟩, 0, ⟨#[]⟩, 0, 0⟩
/-- A request's fields in new memory, two marks behind. -/
structure Mkd (w : World) (base : Nat) (x : Value) (F : List F5) : Prop where
  o : ∃ g cap, x = .slice (some ⟨g, 0, none⟩) F.length cap ∧ F.length + 2 ≤ cap ∧ OwF w base (.slice (some ⟨g, 0, none⟩) (F.length + 2) cap) (F ++ [mkF, mkF])
theorem Mkd.fds {w : World} {base : Nat} {x : Value} {F : List F5} (h : Mkd w base x F) : Fds w x F := by
  obtain ⟨g, cap, rfl, _, ho⟩ := h.o
  refine .inr ⟨g, 0, cap, rfl, fun j hj => ?_⟩
  obtain ⟨g', o', e, c0, c1, c2, c3, c4⟩ := ho.fds.at_ j (by simp; omega)
  cases e
  rw [List.getElem_append_left hj] at c0 c1 c2 c3 c4
  exact ⟨c0, c1, c2, c3, c4⟩
theorem Mkd.own {w : World} {base : Nat} {x : Value} {F : List F5} (h : Mkd w base x F) {g : Nat} (hg : x.ownBlock = some g) : base ≤ g ∧ g < w.heap.size := by
  obtain ⟨g', cap, rfl, _, ho⟩ := h.o
  exact ho.lt g hg
theorem Mkd.frS {w w' : World} {base : Nat} {x : Value} {F : List F5} {S : Nat → Prop} (h : Mkd w base x F) (hf : Fr S w w') (hS : ∀ g, x.ownBlock = some g → ¬ S g) : Mkd w' base x F := by
  obtain ⟨g, cap, rfl, hc, ho⟩ := h.o
  exact ⟨g, cap, rfl, hc, ho.fr hf (fun k hk => hS k hk)⟩
theorem Mkd.fr {w w' : World} {base : Nat} {x : Value} {F : List F5} (h : Mkd w base x F) (hf : Fr (fun _ => False) w w') : Mkd w' base x F := h.frS hf (fun _ _ h => h)
theorem Mkd.fdc {w : World} {base : Nat} {x : Value} {F : List F5} (h : Mkd w base x F) : FdC w w.heap.size x F := by
  refine ⟨h.fds, fun g o n c e h0 => (h.own (by rw [e]; rfl)).2, fun xo n c e => ?_, fun n c e => ?_⟩
  · obtain ⟨g, cap, rfl, hc, _⟩ := h.o
    cases e
    omega
  · obtain ⟨g, cap, rfl, hc, _⟩ := h.o
    cases e
/-- append(l, mark, mark). -/
theorem app_marks (w : World) (base : Nat) (v : Value) (l : List F5) (h : OwF w base v l) (hb : base ≤ w.heap.size) (hl : l.length ≤ 1000000000) :
    ∃ g cap w', (Builtin.append_ #[25, 25] 25 #[v, .slice (some ⟨w.heap.size, 0, none⟩) 2 2]).run Tryz.prog (w.alloc (.cells #[.string ⟨#[109, 97, 114, 107]⟩, .int .u8 0, .string ⟨#[]⟩, .float .f32 0, .int .u8 0, .string ⟨#[109, 97, 114, 107]⟩, .int .u8 0, .string ⟨#[]⟩, .float .f32 0, .int .u8 0] 56)) = .ok (.slice (some ⟨g, 0, none⟩) (l.length + 2) cap) w' ∧ OwF w' base (.slice (some ⟨g, 0, none⟩) (l.length + 2) cap) (l ++ [mkF, mkF]) ∧ l.length + 2 ≤ cap ∧ Fr (fun g => v.ownBlock = some g) w w' := by
  obtain ⟨i0, hi, hz0, hz1, hz2⟩ := info_parts Tryz.infoFl
  have hb' := ownsRow_of_block (w' := w.alloc (.cells #[.string ⟨#[109, 97, 114, 107]⟩, .int .u8 0, .string ⟨#[]⟩, .float .f32 0, .int .u8 0, .string ⟨#[109, 97, 114, 107]⟩, .int .u8 0, .string ⟨#[]⟩, .float .f32 0, .int .u8 0] 56)) h (fun g hg => Below.heap_alloc _ _ _ (h.lt g hg).2)
  obtain ⟨v', w', hr, h2, h3, _, h5⟩ := run_append_own_at (P := Tryz.prog) (w := w.alloc (.cells #[.string ⟨#[109, 97, 114, 107]⟩, .int .u8 0, .string ⟨#[]⟩, .float .f32 0, .int .u8 0, .string ⟨#[109, 97, 114, 107]⟩, .int .u8 0, .string ⟨#[]⟩, .float .f32 0, .int .u8 0] 56)) base 25 25 56 i0 (.agg #[.string ⟨#[]⟩, .int .u8 0, .string ⟨#[]⟩, .float .f32 0, .int .u8 0]) 5 48 Tryz.underlying25 hi hz0 hz1 hz2 rfl (by decide) v l.length (fcells l) hb' ⟨w.heap.size, 0, none⟩ 2 2 (fcells [mkF, mkF]) (by rw [fcells_len]; rfl) (fun j u hu => by
    rw [addr_add, World.cell?_alloc_at _ _ _ _ rfl]; simpa [fcells, mkF] using hu) (fcells_one _) (by simp only [maxLen]; omega) (by omega) (by simp; omega)
  have h6 : OwF w' base v' (l ++ [mkF, mkF]) := by
    unfold OwF
    rw [fcells_cat, List.length_append]
    exact h2
  rcases h2.2 with ⟨_, h0⟩ | ⟨g, cap, cur, rfl, _, _, hcap, _⟩
  · omega
  exact ⟨g, cap, w', hr, h6, hcap, ((box1 w _).mono (fun _ _ h => h.elim)).grown h3 (fun g hg => .inl hg)⟩
set_option maxHeartbeats 8000000 in
set_option maxRecDepth 100000 in
/-- Copied. -/
theorem copied_any (cl nu ac op rc ve wa ow : Nat) (x : Value) (rs : ByteArray) (F : List F5) (w : World) (hx : Fds w x F) (hl : F.length ≤ 1048576) :
    Calls Tryz.prog 8 #[.agg #[.int .u32 (cl : Nat), .int .u32 (nu : Nat), .int .u32 (ac : Nat), .int .u8 (op : Nat), .int .u32 (rc : Nat), .int .u32 (ve : Nat), .int .u32 (wa : Nat), .int .u32 (ow : Nat), x, .string rs]] w fun e w' => ∃ y, e = .returned (.agg #[.int .u32 (cl : Nat), .int .u32 (nu : Nat), .int .u32 (ac : Nat), .int .u8 (op : Nat), .int .u32 (rc : Nat), .int .u32 (ve : Nat), .int .u32 (wa : Nat), .int .u32 (ow : Nat), y, .string rs]) ∧ Mkd w' w.heap.size y F ∧ Fr (fun _ => False) w w' := by
  obtain ⟨xo, xc, rfl⟩ := hx.form
  have HX := hide hx
  clear hx
  obtain ⟨W1, hW1⟩ : ∃ W1, W1 = (w.alloc (.cells #[.int .u32 (cl : Nat), .int .u32 (nu : Nat), .int .u32 (ac : Nat), .int .u8 (op : Nat), .int .u32 (rc : Nat), .int .u32 (ve : Nat), .int .u32 (wa : Nat), .int .u32 (ow : Nat), .slice xo F.length xc, .string rs] 27)).alloc (.cells #[.int .u32 0, .int .u32 0, .int .u32 0, .int .u8 0, .int .u32 0, .int .u32 0, .int .u32 0, .int .u32 0, .slice none 0 0, .string ⟨#[]⟩] 27) := ⟨_, rfl⟩
  have hk1 : W1.heap[w.heap.size]? = some (.cells #[.int .u32 (cl : Nat), .int .u32 (nu : Nat), .int .u32 (ac : Nat), .int .u8 (op : Nat), .int .u32 (rc : Nat), .int .u32 (ve : Nat), .int .u32 (wa : Nat), .int .u32 (ow : Nat), .slice xo F.length xc, .string rs] 27) := by rw [hW1]; exact ((box1 _ _).block _ (by simp) (fun h => h)).trans Array.getElem?_push_size
  have hk2 : W1.heap[w.heap.size + 1]? = some (.cells #[.int .u32 0, .int .u32 0, .int .u32 0, .int .u8 0, .int .u32 0, .int .u32 0, .int .u32 0, .int .u32 0, .slice none 0 0, .string ⟨#[]⟩] 27) := by
    rw [hW1]
    have e : w.heap.size + 1 = (w.alloc (.cells #[.int .u32 (cl : Nat), .int .u32 (nu : Nat), .int .u32 (ac : Nat), .int .u8 (op : Nat), .int .u32 (rc : Nat), .int .u32 (ve : Nat), .int .u32 (wa : Nat), .int .u32 (ow : Nat), .slice xo F.length xc, .string rs] 27)).heap.size := by simp
    rw [e]
    exact Array.getElem?_push_size
  have hf1 : Fr (fun _ => False) w W1 := by rw [hW1]; exact (box1 w _).trans (box1 _ _) (fun _ _ h => h)
  have hs1 : W1.heap.size = w.heap.size + 2 := by rw [hW1]; simp
  have H1 := hide (And.intro hk1 (And.intro hk2 (And.intro hf1 hs1)))
  clear hk1 hk2 hf1 hs1
  go_enter Tryz.func8, Tryz.ntmps8
  go_wp2_with fail
  rw [← hW1]
  clear hW1
  go_loopw [3, 4] (fun av iv wr => ∃ (j : Nat) (ao : Option Addr) (cap : Nat), j ≤ F.length ∧ iv = .int .i64 (j : Nat) ∧ av = .slice ao j cap ∧ OwF wr (w.heap.size + 2) (.slice ao j cap) (F.take j) ∧ Fr (fun _ => False) W1 wr) (fun _ iv _ => F.length - (intOf iv).toNat)
  case atStart => exact ⟨0, none, 0, Nat.zero_le _, rfl, rfl, World.ownsRow_nil _ _ _ _, Fr.refl _ _⟩
  case round =>
    obtain ⟨j, ao, cap, hj, rfl, rfl, hown, hfr⟩ := hrel
    have hlen : (F.take j).length = j := by simp; omega
    have hkb := (hfr.block _ (lt_of_block (unhide H1).1) (fun h => h)).trans (unhide H1).1
    have b8 : wr.cell? ⟨w.heap.size, 8, none⟩ = some (.slice xo F.length xc) := by simp [World.cell?, hkb]
    by_cases hlt : j < F.length
    · obtain ⟨g, o, rfl, c0, c1, c2, c3, c4⟩ := (((unhide HX).fr (unhide H1).2.2.1).fr hfr).at_ j hlt
      obtain ⟨P, hPe⟩ : ∃ P, F[j] = P := ⟨_, rfl⟩
      rw [hPe] at c0 c1 c2 c3 c4
      have htk : F.take (j + 1) = F.take j ++ [P] := by rw [List.take_add_one, List.getElem?_eq_getElem hlt, hPe]; rfl
      obtain ⟨ao2, cap2, w2, hr, hown2, hf2, _⟩ := app_fld wr (w.heap.size + 2) (.slice ao j cap) (F.take j) P hown (by have := hfr.size; have := (unhide H1).2.2.2; omega) (by omega)
      rw [hlen] at hr hown2
      rw [← htk] at hown2
      have hf3 : Fr (fun _ => False) W1 w2 := hfr.absorb hf2 (fun k hk => by have := (hown.lt k hk).1; have := (unhide H1).2.2.2; omega)
      have HR := hide hr
      have HO := hide (And.intro hown2 hf3)
      obtain ⟨pn, pk, pt, pv, pu⟩ := P
      simp only at c0 c1 c2 c3 c4 HR
      have hkl : (j : Int) < (F.length : Int) := by omega
      clear hown hfr hPe htk hr hown2 hf2 hf3 hlen hkb
      go_wp2_with (at_builtin; refine wpList_app rfl (.tmp 12) (.tmp 18) 25 25 rfl _ _ _ rfl rfl (unhide HR) ?_)
      go_roundw
      case rel => exact ⟨j + 1, ao2, cap2, hlt, by go_num, rfl, (unhide HO).1, (unhide HO).2⟩
      case measure => simp [intOf]; omega
    · obtain rfl : j = F.length := by omega
      rw [List.take_length] at hown
      obtain ⟨g, cap2, w2, hr, hown2, hcap, hf2⟩ := app_marks wr (w.heap.size + 2) (.slice ao F.length cap) F hown (by have := hfr.size; have := (unhide H1).2.2.2; omega) (by omega)
      have hf3 : Fr (fun _ => False) W1 w2 := hfr.absorb hf2 (fun k hk => by have := (hown.lt k hk).1; have := (unhide H1).2.2.2; omega)
      have hm2 : OwF w2 (w.heap.size + 2) (.slice (some ⟨g, 0, none⟩) (F.length + 2) cap2) (F ++ [mkF, mkF]) := hown2
      have k1 := (hf3.block _ (lt_of_block (unhide H1).1) (fun h => h)).trans (unhide H1).1
      have k2 := (hf3.block _ (lt_of_block (unhide H1).2.1) (fun h => h)).trans (unhide H1).2.1
      -- r.Fields is stored
      obtain ⟨w3, hw3⟩ : ∃ w3, w3 = w2.setCell ⟨w.heap.size, 8, none⟩ (.slice (some ⟨g, 0, none⟩) F.length cap2) := ⟨_, rfl⟩
      have hf23 : Fr (fun k => k = w.heap.size) w2 w3 := by rw [hw3]; exact (Fr.refl (fun k => k = w.heap.size) w2).setCell (p := ⟨w.heap.size, 8, none⟩) (.inl rfl) _
      have k3 : w3.heap[w.heap.size]? = some (.cells #[.int .u32 (cl : Nat), .int .u32 (nu : Nat), .int .u32 (ac : Nat), .int .u8 (op : Nat), .int .u32 (rc : Nat), .int .u32 (ve : Nat), .int .u32 (wa : Nat), .int .u32 (ow : Nat), .slice (some ⟨g, 0, none⟩) F.length cap2, .string rs] 27) := by
        have := heap_setCell_same w2 w.heap.size 8 _ 27 (.slice (some ⟨g, 0, none⟩) F.length cap2) k1
        rw [hw3]
        simp only [List.setIfInBounds_toArray, List.set_cons_zero, List.set_cons_succ] at this
        exact this
      have k4 := (hf23.block (w.heap.size + 1) (lt_of_block k2) (by omega)).trans k2
      obtain ⟨w4, hst, k5, hf34⟩ := req_put k4 ⟨cl, nu, ac, op, rc, ve, wa, ow, .slice (some ⟨g, 0, none⟩) F.length cap2, rs⟩ rfl
      have hg := hm2.lt g rfl
      have hm4 : Mkd w4 w.heap.size (.slice (some ⟨g, 0, none⟩) F.length cap2) F := by
        refine ⟨g, cap2, rfl, hcap, ?_⟩
        have h1 := (hm2.fr hf23 (fun k hk => by have e : g = k := Option.some.inj hk; omega)).fr hf34 (fun k hk => by have e : g = k := Option.some.inj hk; omega)
        exact ownsRow_base h1 (by omega)
      have hf4 : Fr (fun _ => False) w w4 := (((unhide H1).2.2.1.trans hf3 (fun _ _ h => h)).absorb hf23 (fun k hk => by omega)).absorb hf34 (fun k hk => by omega)
      have HR := hide hr
      rw [hw3] at hst
      have HST := hide hst
      have H4 := hide (And.intro hm4 (And.intro hf4 k5))
      have D2 : ∀ i, w2.cell? ⟨w.heap.size, i, none⟩ = (#[.int .u32 (cl : Nat), .int .u32 (nu : Nat), .int .u32 (ac : Nat), .int .u8 (op : Nat), .int .u32 (rc : Nat), .int .u32 (ve : Nat), .int .u32 (wa : Nat), .int .u32 (ow : Nat), .slice xo F.length xc, .string rs] : Array Value)[i]? := fun i => by simp [World.cell?, k1]
      have d0 := D2 0
      have d1 := D2 1
      have d2 := D2 2
      have d3 := D2 3
      have d4 := D2 4
      have d5 := D2 5
      have d6 := D2 6
      have d7 := D2 7
      have d8 := D2 8
      have d9 := D2 9
      simp only [List.getElem?_toArray, List.getElem?_cons_zero, List.getElem?_cons_succ] at d0 d1 d2 d3 d4 d5 d6 d7 d8 d9
      have z8 : w2.frozen? ⟨w.heap.size, 8, none⟩ = false := by simp [World.frozen?, k1]
      have hsl : (F.length : Int) ≤ (cap2 : Int) := by omega
      clear hown hfr hr hown2 hf2 hf3 hlen hkb hm2 k1 k2 k3 k4 hst k5 hf34 hf23 hm4 hf4 D2 hcap hg hw3
      go_wp2_with (first | (at_builtin; refine wpList_app rfl (.tmp 20) (.tmp 23) 25 25 rfl _ _ _ rfl rfl (unhide HR) ?_) | (refine wpList_stN rfl 27 (.tmp 2) (.tmp 29) rfl _ _ rfl rfl (unhide HST) ?_))
      refine bodyPost_ret (results_cell_mid rfl _ _ (w.heap.size + 1) 0 [.int .u32 (cl : Nat), .int .u32 (nu : Nat), .int .u32 (ac : Nat), .int .u8 (op : Nat), .int .u32 (rc : Nat), .int .u32 (ve : Nat), .int .u32 (wa : Nat), .int .u32 (ow : Nat), .slice (some ⟨g, 0, none⟩) F.length cap2, .string rs] _ rfl (range_of_block (unhide H4).2.2) Tryz.underlying27 rfl (by kernel_rfl)) rfl ?_
      exact ⟨_, rfl, (unhide H4).1, (unhide H4).2.1⟩
set_option maxHeartbeats 4000000 in
set_option maxRecDepth 100000 in
/-- SameRequest, of like requests. -/
theorem sameR_any (cl nu ac op rc ve wa ow : Nat) (x y : Value) (rs : ByteArray) (F : List F5) (w : World) (hx : Fds w x F) (hy : Fds w y F) (hl : F.length ≤ 140737488355328) :
    Calls Tryz.prog 33 #[.agg #[.int .u32 (cl : Nat), .int .u32 (nu : Nat), .int .u32 (ac : Nat), .int .u8 (op : Nat), .int .u32 (rc : Nat), .int .u32 (ve : Nat), .int .u32 (wa : Nat), .int .u32 (ow : Nat), x, .string rs], .agg #[.int .u32 (cl : Nat), .int .u32 (nu : Nat), .int .u32 (ac : Nat), .int .u8 (op : Nat), .int .u32 (rc : Nat), .int .u32 (ve : Nat), .int .u32 (wa : Nat), .int .u32 (ow : Nat), y, .string rs]] w fun e w' => e = .returned (.bool true) ∧ Fr (fun _ => False) w w' := by
  have HSF : Hid (∀ W, Fr (fun _ => False) w W → Calls Tryz.prog 43 #[x, y] W fun e w' => e = .returned (.bool true) ∧ ∃ q, w' = W.drewN q) := fun W hW => sameF_any x y F W (hx.fr hW) (hy.fr hW) hl
  obtain ⟨xo, xc, rfl⟩ := hx.form
  obtain ⟨yo, yc, rfl⟩ := hy.form
  have hni := eql_id cl nu
  have hse : ∀ W, (binOp .eql 9 (.string rs) (.string rs)).run Tryz.prog W = .ok (.bool true) W := fun W => by rw [Tryz.eqlS]; simp
  clear hx hy
  go_enter Tryz.func33, Tryz.ntmps33
  go_wp2_with fail
  refine ((unhide HSF) _ ((Fr.refl _ _).alloc _ |>.alloc _)).mono ?_
  rintro e w2 ⟨rfl, q, rfl⟩
  go_wp2_with fail
  go_ret
  exact ⟨rfl, ((Fr.refl _ _).alloc _ |>.alloc _).drewN q⟩
end Go.Proofs.YtciblhmmpamjoaaGreatDoor

namespace Go.Proofs.YtciblhmmpamjoaaGreatDoor
open Go.RowKit

theorem bl_irr : ∀ a : List UInt8, Op.bytesLess a a = false
  | [] => rfl
  | x :: r => by
    simp only [Op.bytesLess, bl_irr r, Bool.and_false, Bool.or_false, decide_eq_false_iff_not]
    exact UInt8.lt_irrefl x
theorem bl_trans : ∀ a b c : List UInt8, Op.bytesLess a b = true → Op.bytesLess b c = true → Op.bytesLess a c = true
  | [], b, [], h, k => by cases b <;> simp [Op.bytesLess] at h k
  | [], b, z :: c, h, k => rfl
  | x :: a, [], c, h, k => by simp [Op.bytesLess] at h
  | x :: a, y :: b, [], h, k => by simp [Op.bytesLess] at k
  | x :: a, y :: b, z :: c, h, k => by
    simp only [Op.bytesLess, Bool.or_eq_true, decide_eq_true_eq, Bool.and_eq_true, beq_iff_eq] at h k ⊢
    rcases h with h | ⟨rfl, h⟩
    · rcases k with k | ⟨rfl, k⟩
      · exact .inl (UInt8.lt_trans h k)
      · exact .inl h
    · rcases k with k | ⟨rfl, k⟩
      · exact .inl k
      · exact .inr ⟨rfl, bl_trans a b c h k⟩
theorem bl_tri : ∀ a b : List UInt8, Op.bytesLess a b = true ∨ a = b ∨ Op.bytesLess b a = true
  | [], [] => .inr (.inl rfl)
  | [], y :: b => .inl rfl
  | x :: a, [] => .inr (.inr rfl)
  | x :: a, y :: b => by
    simp only [Op.bytesLess, Bool.or_eq_true, decide_eq_true_eq, Bool.and_eq_true, beq_iff_eq]
    have ht : x < y ∨ x = y ∨ y < x := by
      rcases Nat.lt_trichotomy x.toNat y.toNat with h | h | h
      · exact .inl (UInt8.lt_iff_toNat_lt.2 h)
      · exact .inr (.inl (UInt8.toNat_inj.1 h))
      · exact .inr (.inr (UInt8.lt_iff_toNat_lt.2 h))
    rcases ht with h | rfl | h
    · exact .inl (.inl h)
    · rcases bl_tri a b with h | rfl | h
      · exact .inl (.inr ⟨rfl, h⟩)
      · exact .inr (.inl rfl)
      · exact .inr (.inr (.inr ⟨rfl, h⟩))
    · exact .inr (.inr (.inl h))
theorem bl_asym (a b : List UInt8) (h : Op.bytesLess a b = true) : Op.bytesLess b a = false := by
  cases k : Op.bytesLess b a
  · rfl
  · have := bl_trans a b a h k
    rw [bl_irr] at this
    cases this
/-- Not at most is above. -/
theorem bl_not (a b : List UInt8) : (!(Op.bytesLess a b || a == b)) = Op.bytesLess b a := by
  rcases bl_tri a b with h | rfl | h
  · rw [h, bl_asym a b h]; rfl
  · rw [bl_irr]; simp
  · rw [h, bl_asym b a h]
    cases e : a == b
    · rfl
    · rw [beq_iff_eq] at e
      subst e
      rw [bl_irr] at h
      cases h
/-- Has a field a form, as the document's own answer asks? -/
def gfld (gone : Bool) (f : F5) : Bool := if f.n.size < 1 ∨ 64 < f.n.size then false else if f.k = 1 then decide (f.t.size ≤ 64) && decide (f.v = 0) && decide (f.u = 0) else if f.k = 2 then canB f.v && decide (1 ≤ f.u ∧ f.u ≤ 21) && f.t.toList.isEmpty else decide (f.k = 3) && gone && f.t.toList.isEmpty && decide (f.v = 0) && decide (f.u = 0)
/-- Fields from one on; the name ahead is a. -/
def gris (gone : Bool) : ByteArray → List F5 → Bool
  | _, [] => true
  | a, f :: r => gfld gone f && Op.bytesLess a.toList f.n.toList && gris gone f.n r
def gfds (gone : Bool) : List F5 → Bool
  | [] => true
  | f :: r => gfld gone f && gris gone f.n r
theorem size_toList (b : ByteArray) : b.toList.length = b.size := by
  rw [Lib.toList_data]
  exact Array.length_toList
theorem empty_toList (b : ByteArray) : b.toList.isEmpty = decide (b.size = 0) := by
  rw [← size_toList b]
  cases b.toList <;> simp
theorem bl_pos {a b : List UInt8} (h : Op.bytesLess a b = true) : 1 ≤ b.length := by
  cases b
  · cases a <;> simp [Op.bytesLess] at h
  · simp
theorem bl_nil (b : ByteArray) : Op.bytesLess (ByteArray.toList ⟨#[]⟩) b.toList = decide (1 ≤ b.size) := by
  rw [← size_toList b, Lib.toList_data]
  cases b.toList <;> simp [Op.bytesLess]
theorem gfld_eq (gone : Bool) (f : F5) (h : 1 ≤ f.n.size) : gfld gone f = (fldB f && (decide (f.k ≠ 3) || gone)) := by
  unfold gfld fldB
  rw [empty_toList]
  have h1 : ¬ f.n.size < 1 := by omega
  by_cases h2 : f.n.size ≤ 64
  · have h3 : ¬ 64 < f.n.size := by omega
    by_cases k1 : f.k = 1
    · simp [h1, h2, h3, k1, Bool.and_assoc]
    · by_cases k2 : f.k = 2
      · by_cases e : f.t.size = 0
        · simp [h1, h2, h3, k2, e]
        · simp [h1, h2, h3, k2, e]
      · by_cases k3 : f.k = 3
        · by_cases e : f.t.size = 0
          · cases gone <;> simp [h1, h2, h3, k3, e]
          · simp [h1, h2, h3, k3, e]
        · simp [h1, h2, h3, k1, k2, k3]
  · have h3 : 64 < f.n.size := by omega
    simp [h2, h3]
theorem gris_eq (gone : Bool) : ∀ (l : List F5) (a : ByteArray), gris gone a l = risB gone a l
  | [], _ => rfl
  | f :: r, a => by
    unfold gris risB sleB
    rw [bl_not, gris_eq gone r]
    cases h : Op.bytesLess a.toList f.n.toList
    · simp
    · rw [gfld_eq gone f (by rw [← size_toList]; exact bl_pos h)]
      simp
theorem gfds_eq (gone : Bool) (l : List F5) : (gfds gone l && decide (l.length ≤ 32)) = fdsB l gone := by
  unfold fdsB
  rw [Bool.and_comm]
  congr 1
  cases l with
  | nil => rfl
  | cons f r =>
    rw [← gris_eq]
    show (gfld gone f && gris gone f.n r) = (gfld gone f && Op.bytesLess (ByteArray.toList ⟨#[]⟩) f.n.toList && gris gone f.n r)
    rw [bl_nil]
    by_cases h : 1 ≤ f.n.size
    · simp [h]
    · have : gfld gone f = false := by unfold gfld; rw [if_pos (by omega)]
      simp [this]
end Go.Proofs.YtciblhmmpamjoaaGreatDoor

namespace Go.Proofs.YtciblhmmpamjoaaGreatDoor
open Go.RowKit Go.Shelf

def unitC : Array Value := #[.string ⟨#[103]⟩, .int .i64 1, .int .i64 1, .int .i64 1, .int .i64 0, .int .i64 1, .string ⟨#[109, 103]⟩, .int .i64 1, .int .i64 1, .int .i64 1000, .int .i64 0, .int .i64 1, .string ⟨#[117, 103]⟩, .int .i64 1, .int .i64 1, .int .i64 1000000, .int .i64 0, .int .i64 1, .string ⟨#[107, 103]⟩, .int .i64 1, .int .i64 1000, .int .i64 1, .int .i64 0, .int .i64 1, .string ⟨#[108, 98]⟩, .int .i64 1, .int .i64 45359237, .int .i64 100000, .int .i64 0, .int .i64 1, .string ⟨#[76]⟩, .int .i64 2, .int .i64 1, .int .i64 1, .int .i64 0, .int .i64 1, .string ⟨#[109, 76]⟩, .int .i64 2, .int .i64 1, .int .i64 1000, .int .i64 0, .int .i64 1, .string ⟨#[109]⟩, .int .i64 3, .int .i64 1, .int .i64 1, .int .i64 0, .int .i64 1, .string ⟨#[99, 109]⟩, .int .i64 3, .int .i64 1, .int .i64 100, .int .i64 0, .int .i64 1, .string ⟨#[105, 110]⟩, .int .i64 3, .int .i64 254, .int .i64 10000, .int .i64 0, .int .i64 1, .string ⟨#[67]⟩, .int .i64 4, .int .i64 1, .int .i64 1, .int .i64 27315, .int .i64 100, .string ⟨#[70]⟩, .int .i64 4, .int .i64 5, .int .i64 9, .int .i64 45967, .int .i64 100, .string ⟨#[75]⟩, .int .i64 4, .int .i64 1, .int .i64 1, .int .i64 0, .int .i64 1, .string ⟨#[107, 80, 97]⟩, .int .i64 5, .int .i64 1, .int .i64 1, .int .i64 0, .int .i64 1, .string ⟨#[109, 109, 72, 103]⟩, .int .i64 5, .int .i64 101325, .int .i64 760000, .int .i64 0, .int .i64 1, .string ⟨#[109, 109, 111, 108, 47, 76]⟩, .int .i64 6, .int .i64 1, .int .i64 1, .int .i64 0, .int .i64 1, .string ⟨#[109, 103, 47, 100, 76]⟩, .int .i64 6, .int .i64 10000, .int .i64 180156, .int .i64 0, .int .i64 1, .string ⟨#[47, 109, 105, 110]⟩, .int .i64 7, .int .i64 1, .int .i64 1, .int .i64 0, .int .i64 1, .string ⟨#[47, 115]⟩, .int .i64 7, .int .i64 60, .int .i64 1, .int .i64 0, .int .i64 1, .string ⟨#[37]⟩, .int .i64 8, .int .i64 1, .int .i64 1, .int .i64 0, .int .i64 1, .string ⟨#[49]⟩, .int .i64 8, .int .i64 100, .int .i64 1, .int .i64 0, .int .i64 1]
def unitN : List ByteArray := [⟨#[103]⟩, ⟨#[109, 103]⟩, ⟨#[117, 103]⟩, ⟨#[107, 103]⟩, ⟨#[108, 98]⟩, ⟨#[76]⟩, ⟨#[109, 76]⟩, ⟨#[109]⟩, ⟨#[99, 109]⟩, ⟨#[105, 110]⟩, ⟨#[67]⟩, ⟨#[70]⟩, ⟨#[75]⟩, ⟨#[107, 80, 97]⟩, ⟨#[109, 109, 72, 103]⟩, ⟨#[109, 109, 111, 108, 47, 76]⟩, ⟨#[109, 103, 47, 100, 76]⟩, ⟨#[47, 109, 105, 110]⟩, ⟨#[47, 115]⟩, ⟨#[37]⟩, ⟨#[49]⟩]
set_option maxHeartbeats 4000000 in
set_option maxRecDepth 100000 in
/-- The reference's table of units. -/
theorem gunits_any (w : World) : Calls Tryz.prog 104 #[] w fun e w' => e = .returned (.slice (some ⟨w.heap.size, 0, none⟩) 21 21) ∧ w' = w.alloc (.cells unitC 170) := by
  go_enter Tryz.func104, Tryz.ntmps104
  go_wp2_with (refine wp_bs (.slice (some ⟨w.heap.size, 0, none⟩) 21 21) (w.alloc (.cells unitC 170)) (by kernel_rfl) ?_)
  go_ret
  exact ⟨rfl, rfl⟩
set_option maxRecDepth 100000 in
theorem unit_at {W : World} {b : Nat} (hb : W.heap[b]? = some (.cells unitC 170)) (i : Nat) (hi : i < 21) : W.cell? ⟨b, i * 6, none⟩ = some (.string (unitN.getD i ⟨#[]⟩)) ∧ W.cell? ⟨b, i * 6 + 1, none⟩ = some (.int .i64 ((measL.getD (i + 1) 0 : Nat) : Int)) := by
  simp only [World.cell?, hb]
  rcases i with _ | _ | _ | _ | _ | _ | _ | _ | _ | _ | _ | _ | _ | _ | _ | _ | _ | _ | _ | _ | _ | i
  · exact ⟨rfl, rfl⟩
  · exact ⟨rfl, rfl⟩
  · exact ⟨rfl, rfl⟩
  · exact ⟨rfl, rfl⟩
  · exact ⟨rfl, rfl⟩
  · exact ⟨rfl, rfl⟩
  · exact ⟨rfl, rfl⟩
  · exact ⟨rfl, rfl⟩
  · exact ⟨rfl, rfl⟩
  · exact ⟨rfl, rfl⟩
  · exact ⟨rfl, rfl⟩
  · exact ⟨rfl, rfl⟩
  · exact ⟨rfl, rfl⟩
  · exact ⟨rfl, rfl⟩
  · exact ⟨rfl, rfl⟩
  · exact ⟨rfl, rfl⟩
  · exact ⟨rfl, rfl⟩
  · exact ⟨rfl, rfl⟩
  · exact ⟨rfl, rfl⟩
  · exact ⟨rfl, rfl⟩
  · exact ⟨rfl, rfl⟩
  · omega
/-- The name of a unit, or none. -/
def nameU (u : Nat) : ByteArray := if isU u then unitN.getD (u - 1) ⟨#[]⟩ else ⟨#[]⟩
theorem nameU_empty (u : Nat) : (nameU u).toList.isEmpty = !(isU u) := by
  rw [empty_toList]
  unfold nameU isU
  by_cases h1 : 1 ≤ u
  · by_cases h2 : u ≤ 21
    · obtain ⟨k, rfl⟩ : ∃ k, u = k + 1 := ⟨u - 1, by omega⟩
      simp only [h1, h2, decide_true, Bool.and_self, if_true, Nat.add_sub_cancel]
      rcases k with _ | _ | _ | _ | _ | _ | _ | _ | _ | _ | _ | _ | _ | _ | _ | _ | _ | _ | _ | _ | _ | k
      · rfl
      · rfl
      · rfl
      · rfl
      · rfl
      · rfl
      · rfl
      · rfl
      · rfl
      · rfl
      · rfl
      · rfl
      · rfl
      · rfl
      · rfl
      · rfl
      · rfl
      · rfl
      · rfl
      · rfl
      · rfl
      · omega
    · simp [h2, ByteArray.size]
  · simp [h1, ByteArray.size]
end Go.Proofs.YtciblhmmpamjoaaGreatDoor

namespace Go.Proofs.YtciblhmmpamjoaaGreatDoor
open Go.RowKit Go.Shelf

set_option maxHeartbeats 2000000 in
set_option maxRecDepth 100000 in
theorem gname_any (u : Nat) (w : World) (hu : u < 256) : Calls Tryz.prog 95 #[.int .u8 (u : Nat)] w fun e w' => e = .returned (.string (nameU u)) ∧ Fr (fun _ => False) w w' := by
  have HU := hide (fun W => gunits_any W)
  have HUA := hide (fun (W : World) (b : Nat) => @unit_at W b)
  by_cases h1 : 1 ≤ u
  · by_cases h2 : u ≤ 21
    · obtain ⟨k, rfl⟩ : ∃ k, u = k + 1 := ⟨u - 1, by omega⟩
      have hwi : IntKind.i64.wrap ((k : Int) + 1) = (k : Int) + 1 := by rw [IntKind.wrap_i64]; omega
      have a1 : ¬ ((k : Int) + 1) < 1 := by omega
      have a2 : decide ((21 : Int) < (k : Int) + 1) = false := decide_eq_false (by omega)
      obtain ⟨nm, hnm⟩ : ∃ nm, unitN.getD k ⟨#[]⟩ = nm := ⟨_, rfl⟩
      have HNM := hide hnm
      clear hnm
      have HN := hide (show nameU (k + 1) = unitN.getD k ⟨#[]⟩ by unfold nameU isU; simp [h2])
      have a3 : IntKind.u8.wrap (k : Int) = (k : Int) := by rw [IntKind.wrap_u8]; omega
      have a4 : (k : Int) < 21 := by omega
      have hk : k < 21 := by omega
      clear h1 h2 hu
      go_enter Tryz.func95, Tryz.ntmps95
      go_wp2_with fail
      refine ((unhide HU) _).mono ?_
      rintro e w1 ⟨rfl, hw1⟩
      have F1 : Hid (Fr (fun _ => False) w w1) := by rw [hw1]; exact box1 w _
      clear hw1
      go_wp2_with fail
      refine ((unhide HU) _).mono ?_
      rintro e w2 ⟨rfl, hw2⟩
      have F2 : Hid (Fr (fun _ => False) w w2) := by rw [hw2]; exact (unhide F1).trans (box1 w1 _) (fun _ _ h => h)
      have hb2 : w2.heap[w1.heap.size]? = some (.cells unitC 170) := by rw [hw2]; exact Array.getElem?_push_size
      obtain ⟨c0, _⟩ := (unhide HUA) _ _ hb2 k hk
      rw [unhide HNM] at c0
      clear hw2 hb2
      go_wp2_with fail
      go_ret
      exact ⟨by rw [unhide HN, unhide HNM]; rfl, unhide F2⟩
    · have hwi : IntKind.i64.wrap (u : Int) = (u : Int) := by rw [IntKind.wrap_i64]; omega
      have a1 : ¬ (u : Int) < 1 := by omega
      have a2 : decide ((21 : Int) < (u : Int)) = true := decide_eq_true (by omega)
      have HN := hide (show nameU u = ⟨#[]⟩ by unfold nameU isU; simp [h2])
      go_enter Tryz.func95, Tryz.ntmps95
      go_wp2_with fail
      refine ((unhide HU) _).mono ?_
      rintro e w1 ⟨rfl, hw1⟩
      have F1 : Hid (Fr (fun _ => False) w w1) := by rw [hw1]; exact box1 w _
      clear hw1
      go_wp2_with fail
      go_ret
      exact ⟨by rw [unhide HN]; rfl, unhide F1⟩
  · obtain rfl : u = 0 := by omega
    go_enter Tryz.func95, Tryz.ntmps95
    go_wp2_with fail
    go_ret
    exact ⟨rfl, Fr.refl _ _⟩
set_option maxRecDepth 100000 in
theorem gis_any (x : Nat) (w : World) (hx : x < 4294967296) : Calls Tryz.prog 113 #[.int .u32 (x : Nat)] w fun e w' => e = .returned (.bool (decide (x % 2147483648 < 2139095040))) ∧ w' = w := by
  have hw : IntKind.u32.wrap ((x : Int) / 8388608) = ((x / 8388608 : Nat) : Int) := by rw [IntKind.wrap_u32]; omega
  have hb : bits .and .u32 ((x : Int) / 8388608) 255 = (x : Int) / 8388608 % 256 := by
    have h := u32_and_nat (x / 8388608) 255 (by omega) (by omega)
    rw [Nat.and_two_pow_sub_one_eq_mod (x / 8388608) 8] at h
    have e : ((x / 8388608 : Nat) : Int) = (x : Int) / 8388608 := by omega
    rw [e] at h
    refine h.trans ?_
    omega
  by_cases h : (x : Int) / 8388608 % 256 = 255
  · rw [decide_eq_false (by omega)]
    go_enter Tryz.func113, Tryz.ntmps113
    go_wp2
    all_goals
      go_ret
      exact ⟨rfl, rfl⟩
  · rw [decide_eq_true (by omega)]
    have h1 : ((x : Int) / 8388608 % 256 != 255) = true := by simp [h]
    go_enter Tryz.func113, Tryz.ntmps113
    go_wp2
    all_goals
      go_ret
      exact ⟨rfl, rfl⟩
def canV (x : Nat) : Nat × Nat := if x % 2147483648 < 2139095040 then (if x = 2147483648 then (0, 0) else (x, 0)) else (0, 14)
set_option maxRecDepth 100000 in
theorem gcanon_any (x : Nat) (w : World) (hx : x < 4294967296) : Calls Tryz.prog 94 #[.int .u32 (x : Nat)] w fun e w' => e = .returned (.tuple #[.int .u32 ((canV x).1 : Nat), .int .i64 ((canV x).2 : Nat)]) ∧ w' = w := by
  have HI := hide (gis_any x w hx)
  by_cases h1 : x % 2147483648 < 2139095040
  · rw [decide_eq_true h1] at HI
    by_cases h2 : x = 2147483648
    · subst h2
      have HV := hide (show canV 2147483648 = (0, 0) from rfl)
      go_enter Tryz.func94, Tryz.ntmps94
      go_wp2_with fail
      refine (unhide HI).mono ?_
      rintro e w1 ⟨rfl, hw⟩
      obtain rfl := hw.symm
      clear hw
      go_wp2_with fail
      go_ret2
      exact ⟨by rw [unhide HV]; rfl, rfl⟩
    · have HV := hide (show canV x = (x, 0) by unfold canV; rw [if_pos h1, if_neg h2])
      have h3 : ¬ (x : Int) = 2147483648 := by omega
      clear h1 h2
      go_enter Tryz.func94, Tryz.ntmps94
      go_wp2_with fail
      refine (unhide HI).mono ?_
      rintro e w1 ⟨rfl, hw⟩
      obtain rfl := hw.symm
      clear hw
      go_wp2_with fail
      go_ret2
      exact ⟨by rw [unhide HV]; rfl, rfl⟩
  · rw [decide_eq_false h1] at HI
    have HV := hide (show canV x = (0, 14) by unfold canV; rw [if_neg h1])
    clear h1
    go_enter Tryz.func94, Tryz.ntmps94
    go_wp2_with fail
    refine (unhide HI).mono ?_
    rintro e w1 ⟨rfl, hw⟩
    obtain rfl := hw.symm
    clear hw
    go_wp2_with fail
    go_ret2
    exact ⟨by rw [unhide HV]; rfl, rfl⟩
theorem canV_eq (x : Nat) : (decide ((canV x).2 = 0) && decide ((canV x).1 = x)) = canB x := by
  unfold canV canB
  by_cases h1 : x % 2147483648 < 2139095040
  · by_cases h2 : x = 2147483648
    · subst h2; rfl
    · simp [h1, h2]
  · simp [h1]
end Go.Proofs.YtciblhmmpamjoaaGreatDoor

namespace Go.Proofs.YtciblhmmpamjoaaGreatDoor
open Go.RowKit Go.Shelf

set_option maxHeartbeats 4000000 in
set_option maxRecDepth 100000 in
/-- The reference's field. -/
theorem gfield_any (n : ByteArray) (k : Nat) (t : ByteArray) (v u : Nat) (gone : Bool) (w : World) (hv : v < 4294967296) (hu : u < 256) :
    Calls Tryz.prog 59 #[.agg #[.string n, .int .u8 (k : Nat), .string t, .float .f32 v, .int .u8 (u : Nat)], .bool gone] w fun e w' => e = .returned (.bool (gfld gone ⟨n, k, t, v, u⟩)) ∧ Fr (fun _ => False) w w' := by
  have HC := hide (fun W => gcanon_any v W hv)
  have HN := hide (fun W => gname_any u W hu)
  have hbt : (w.alloc (.cells #[.string n, .int .u8 (k : Nat), .string t, .float .f32 v, .int .u8 (u : Nat)] 56)).cell? ⟨w.heap.size, 2, none⟩ = some (.string t) := by rw [World.cell?_alloc_at _ _ _ _ rfl]; rfl
  clear hv hu
  by_cases h1 : n.size < 1
  · have h1i : (n.size : Int) < 1 := by omega
    have HV := hide (show gfld gone ⟨n, k, t, v, u⟩ = false by unfold gfld; simp only [h1, true_or, if_true])
    clear h1
    go_enter Tryz.func59, Tryz.ntmps59
    go_wp2_with fail
    go_ret
    exact ⟨congrArg (fun b => Ending.returned (.bool b)) (unhide HV).symm, box1 w _⟩
  · have h1i : ¬ (n.size : Int) < 1 := by omega
    by_cases h2 : 64 < n.size
    · have h2i : (64 : Int) < (n.size : Int) := by omega
      have HV := hide (show gfld gone ⟨n, k, t, v, u⟩ = false by unfold gfld; simp only [h2, or_true, if_true])
      clear h1 h2
      go_enter Tryz.func59, Tryz.ntmps59
      go_wp2_with fail
      go_ret
      exact ⟨congrArg (fun b => Ending.returned (.bool b)) (unhide HV).symm, box1 w _⟩
    · have h2i : ¬ (64 : Int) < (n.size : Int) := by omega
      by_cases k1 : k = 1
      · subst k1
        by_cases t1 : t.size ≤ 64
        · have t1i : (t.size : Int) ≤ 64 := by omega
          by_cases v1 : v = 0
          · by_cases u1 : u = 0
            · have HV := hide (show gfld gone ⟨n, 1, t, v, u⟩ = true by unfold gfld; simp [h1, h2, t1, v1, u1])
              go_enter Tryz.func59, Tryz.ntmps59
              go_wp2_with fail
              refine (gbits_any _ _).mono ?_
              rintro e w1 ⟨rfl, hw⟩
              obtain rfl := hw.symm
              clear hw
              go_wp2_with fail
              go_ret
              exact ⟨congrArg (fun b => Ending.returned (.bool b)) (unhide HV).symm, box1 w _⟩
            · have u1i : ((u : Int) == 0) = false := by rw [beq_eq_false_iff_ne]; omega
              have HV := hide (show gfld gone ⟨n, 1, t, v, u⟩ = false by unfold gfld; simp [h1, h2, t1, v1, u1])
              go_enter Tryz.func59, Tryz.ntmps59
              go_wp2_with fail
              refine (gbits_any _ _).mono ?_
              rintro e w1 ⟨rfl, hw⟩
              obtain rfl := hw.symm
              clear hw
              go_wp2_with fail
              go_ret
              exact ⟨congrArg (fun b => Ending.returned (.bool b)) (unhide HV).symm, box1 w _⟩
          · have v1i : ¬ (v : Int) = 0 := by omega
            have HV := hide (show gfld gone ⟨n, 1, t, v, u⟩ = false by unfold gfld; simp [h1, h2, v1])
            go_enter Tryz.func59, Tryz.ntmps59
            go_wp2_with fail
            refine (gbits_any _ _).mono ?_
            rintro e w1 ⟨rfl, hw⟩
            obtain rfl := hw.symm
            clear hw
            go_wp2_with fail
            go_ret
            exact ⟨congrArg (fun b => Ending.returned (.bool b)) (unhide HV).symm, box1 w _⟩
        · have t1i : ¬ (t.size : Int) ≤ 64 := by omega
          have HV := hide (show gfld gone ⟨n, 1, t, v, u⟩ = false by unfold gfld; simp [h1, h2, t1])
          go_enter Tryz.func59, Tryz.ntmps59
          go_wp2_with fail
          go_ret
          exact ⟨congrArg (fun b => Ending.returned (.bool b)) (unhide HV).symm, box1 w _⟩
      · have k1i : ¬ (k : Int) = 1 := by omega
        by_cases k2 : k = 2
        · subst k2
          by_cases c1 : v % 2147483648 < 2139095040
          · by_cases c2 : v = 2147483648
            · subst c2
              have e1 : canV 2147483648 = (0, 0) := rfl
              rw [e1] at HC
              clear c1
              have HV := hide (show gfld gone ⟨n, 2, t, 2147483648, u⟩ = false by unfold gfld; simp [h1, h2, canB])
              go_enter Tryz.func59, Tryz.ntmps59
              go_wp2_with fail
              refine (gbits_any _ _).mono ?_
              rintro e w1 ⟨rfl, hw⟩
              obtain rfl := hw.symm
              clear hw
              go_wp2_with fail
              refine ((unhide HC) _).mono ?_
              rintro e w1 ⟨rfl, hw⟩
              obtain rfl := hw.symm
              clear hw
              go_wp2_with fail
              refine (gbits_any _ _).mono ?_
              rintro e w1 ⟨rfl, hw⟩
              obtain rfl := hw.symm
              clear hw
              go_wp2_with fail
              go_ret
              exact ⟨congrArg (fun b => Ending.returned (.bool b)) (unhide HV).symm, box1 w _⟩
            · have e1 : canV v = (v, 0) := by unfold canV; rw [if_pos c1, if_neg c2]
              rw [e1] at HC
              by_cases u1 : isU u = true
              · have hu1 : 1 ≤ u ∧ u ≤ 21 := by simpa [isU] using u1
                have hne := nameU_empty u
                rw [u1] at hne
                simp only [Bool.not_true] at hne
                by_cases t1 : t.toList.isEmpty = true
                · have HV := hide (show gfld gone ⟨n, 2, t, v, u⟩ = true by unfold gfld; simp [h1, h2, canB, c1, c2, hu1, t1])
                  go_enter Tryz.func59, Tryz.ntmps59
                  go_wp2_with fail
                  refine (gbits_any _ _).mono ?_
                  rintro e w1 ⟨rfl, hw⟩
                  obtain rfl := hw.symm
                  clear hw
                  go_wp2_with fail
                  refine ((unhide HC) _).mono ?_
                  rintro e w1 ⟨rfl, hw⟩
                  obtain rfl := hw.symm
                  clear hw
                  go_wp2_with fail
                  refine (gbits_any _ _).mono ?_
                  rintro e w1 ⟨rfl, hw⟩
                  obtain rfl := hw.symm
                  clear hw
                  go_wp2_with fail
                  refine ((unhide HN) _).mono ?_
                  rintro e w2 ⟨rfl, hf2⟩
                  have t2 := (hf2.cell (p := ⟨w.heap.size, 2, none⟩) (by simp) (fun h => h)).trans hbt
                  have F2 := hide ((box1 w _).trans hf2 (fun _ _ h => h))
                  clear hf2
                  go_wp2_with fail
                  go_ret
                  exact ⟨congrArg (fun b => Ending.returned (.bool b)) (unhide HV).symm, (unhide F2)⟩
                · have HV := hide (show gfld gone ⟨n, 2, t, v, u⟩ = false by unfold gfld; simp [h1, h2, canB, c1, c2, hu1, t1])
                  go_enter Tryz.func59, Tryz.ntmps59
                  go_wp2_with fail
                  refine (gbits_any _ _).mono ?_
                  rintro e w1 ⟨rfl, hw⟩
                  obtain rfl := hw.symm
                  clear hw
                  go_wp2_with fail
                  refine ((unhide HC) _).mono ?_
                  rintro e w1 ⟨rfl, hw⟩
                  obtain rfl := hw.symm
                  clear hw
                  go_wp2_with fail
                  refine (gbits_any _ _).mono ?_
                  rintro e w1 ⟨rfl, hw⟩
                  obtain rfl := hw.symm
                  clear hw
                  go_wp2_with fail
                  refine ((unhide HN) _).mono ?_
                  rintro e w2 ⟨rfl, hf2⟩
                  have t2 := (hf2.cell (p := ⟨w.heap.size, 2, none⟩) (by simp) (fun h => h)).trans hbt
                  have F2 := hide ((box1 w _).trans hf2 (fun _ _ h => h))
                  clear hf2
                  go_wp2_with fail
                  go_ret
                  exact ⟨congrArg (fun b => Ending.returned (.bool b)) (unhide HV).symm, (unhide F2)⟩
              · have hu1 : ¬ (1 ≤ u ∧ u ≤ 21) := by simpa [isU] using u1
                have hne := nameU_empty u
                rw [show isU u = false by simpa using u1] at hne
                simp only [Bool.not_false] at hne
                have HV := hide (show gfld gone ⟨n, 2, t, v, u⟩ = false by unfold gfld; simp [h1, h2, canB, c1, c2, hu1])
                go_enter Tryz.func59, Tryz.ntmps59
                go_wp2_with fail
                refine (gbits_any _ _).mono ?_
                rintro e w1 ⟨rfl, hw⟩
                obtain rfl := hw.symm
                clear hw
                go_wp2_with fail
                refine ((unhide HC) _).mono ?_
                rintro e w1 ⟨rfl, hw⟩
                obtain rfl := hw.symm
                clear hw
                go_wp2_with fail
                refine (gbits_any _ _).mono ?_
                rintro e w1 ⟨rfl, hw⟩
                obtain rfl := hw.symm
                clear hw
                go_wp2_with fail
                refine ((unhide HN) _).mono ?_
                rintro e w2 ⟨rfl, hf2⟩
                have t2 := (hf2.cell (p := ⟨w.heap.size, 2, none⟩) (by simp) (fun h => h)).trans hbt
                have F2 := hide ((box1 w _).trans hf2 (fun _ _ h => h))
                clear hf2
                go_wp2_with fail
                go_ret
                exact ⟨congrArg (fun b => Ending.returned (.bool b)) (unhide HV).symm, (unhide F2)⟩
          · have e1 : canV v = (0, 14) := by unfold canV; rw [if_neg c1]
            rw [e1] at HC
            have HV := hide (show gfld gone ⟨n, 2, t, v, u⟩ = false by unfold gfld; simp [h1, h2, canB, c1])
            go_enter Tryz.func59, Tryz.ntmps59
            go_wp2_with fail
            refine (gbits_any _ _).mono ?_
            rintro e w1 ⟨rfl, hw⟩
            obtain rfl := hw.symm
            clear hw
            go_wp2_with fail
            refine ((unhide HC) _).mono ?_
            rintro e w1 ⟨rfl, hw⟩
            obtain rfl := hw.symm
            clear hw
            go_wp2_with fail
            go_ret
            exact ⟨congrArg (fun b => Ending.returned (.bool b)) (unhide HV).symm, box1 w _⟩
        · have k2i : ¬ (k : Int) = 2 := by omega
          by_cases k3 : k = 3
          · subst k3
            by_cases g1 : gone = true
            · subst g1
              by_cases t1 : t.toList.isEmpty = true
              · by_cases v1 : v = 0
                · by_cases u1 : u = 0
                  · have HV := hide (show gfld true ⟨n, 3, t, v, u⟩ = true by unfold gfld; simp [h1, h2, t1, v1, u1])
                    go_enter Tryz.func59, Tryz.ntmps59
                    go_wp2_with fail
                    refine (gbits_any _ _).mono ?_
                    rintro e w1 ⟨rfl, hw⟩
                    obtain rfl := hw.symm
                    clear hw
                    go_wp2_with fail
                    go_ret
                    exact ⟨congrArg (fun b => Ending.returned (.bool b)) (unhide HV).symm, box1 w _⟩
                  · have u1i : ((u : Int) == 0) = false := by rw [beq_eq_false_iff_ne]; omega
                    have HV := hide (show gfld true ⟨n, 3, t, v, u⟩ = false by unfold gfld; simp [h1, h2, t1, v1, u1])
                    go_enter Tryz.func59, Tryz.ntmps59
                    go_wp2_with fail
                    refine (gbits_any _ _).mono ?_
                    rintro e w1 ⟨rfl, hw⟩
                    obtain rfl := hw.symm
                    clear hw
                    go_wp2_with fail
                    go_ret
                    exact ⟨congrArg (fun b => Ending.returned (.bool b)) (unhide HV).symm, box1 w _⟩
                · have v1i : ¬ (v : Int) = 0 := by omega
                  have HV := hide (show gfld true ⟨n, 3, t, v, u⟩ = false by unfold gfld; simp [h1, h2, v1])
                  go_enter Tryz.func59, Tryz.ntmps59
                  go_wp2_with fail
                  refine (gbits_any _ _).mono ?_
                  rintro e w1 ⟨rfl, hw⟩
                  obtain rfl := hw.symm
                  clear hw
                  go_wp2_with fail
                  go_ret
                  exact ⟨congrArg (fun b => Ending.returned (.bool b)) (unhide HV).symm, box1 w _⟩
              · have HV := hide (show gfld true ⟨n, 3, t, v, u⟩ = false by unfold gfld; simp [h1, h2, t1])
                go_enter Tryz.func59, Tryz.ntmps59
                go_wp2_with fail
                go_ret
                exact ⟨congrArg (fun b => Ending.returned (.bool b)) (unhide HV).symm, box1 w _⟩
            · obtain rfl : gone = false := by simpa using g1
              have HV := hide (show gfld false ⟨n, 3, t, v, u⟩ = false by unfold gfld; simp [h1, h2])
              go_enter Tryz.func59, Tryz.ntmps59
              go_wp2_with fail
              go_ret
              exact ⟨congrArg (fun b => Ending.returned (.bool b)) (unhide HV).symm, box1 w _⟩
          · have k3i : ¬ (k : Int) = 3 := by omega
            have HV := hide (show gfld gone ⟨n, k, t, v, u⟩ = false by unfold gfld; simp [h1, h2, k1, k2, k3])
            go_enter Tryz.func59, Tryz.ntmps59
            go_wp2_with fail
            go_ret
            exact ⟨congrArg (fun b => Ending.returned (.bool b)) (unhide HV).symm, box1 w _⟩
end Go.Proofs.YtciblhmmpamjoaaGreatDoor

