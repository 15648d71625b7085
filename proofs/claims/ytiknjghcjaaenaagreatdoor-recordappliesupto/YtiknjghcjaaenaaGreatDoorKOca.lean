import Derived.Test.YtiknjghcjaaenaaGreatDoorKObb
namespace Go.Proofs.YtiknjghcjaaenaaGreatDoor
open Go.RowKit Go.Shelf
structure SM where
 au : Nat
 ev : Nat
 nf : Nat
 rd : Bool
structure RA where
 co : Nat
 rc : Nat
 ve : Nat
 F : List F5
 H : List SM
def RA.no (c : Nat) : RA := ⟨c, 0, 0, [], []⟩
def VM.sum (v : VM) : SM := ⟨v.au, v.ev, v.F.length, v.rd⟩
def insN (k : Nat) : List Nat → List Nat
 | [] => [k]
 | x :: r => if k < x then k :: x :: r else if k = x then x :: r else x :: insN k r
def RQ.frm (r : RQ) (l : List F5) : Bool :=
 if r.op = 1 then decide (r.rc = 0 ∧ r.ve = 0 ∧ r.rs.size = 0) && fdsB l false
 else if r.op = 2 then decide (r.wa = 0 ∧ r.ow = 0 ∧ r.rs.size = 0) && fdsB l true
 else if r.op = 3 then decide (r.wa = 0 ∧ r.ow = 0 ∧ l.length = 0 ∧ r.rs.size = 0)
 else if r.op = 4 then decide (r.wa = 0 ∧ r.ow = 0 ∧ l.length = 0 ∧ r.rs.size = 0)
 else if r.op = 5 then decide (r.ve = 0 ∧ r.wa = 0 ∧ r.ow = 0 ∧ l.length = 0 ∧ r.rs.size = 0)
 else if r.op = 6 then decide (r.wa = 0 ∧ r.ow = 0 ∧ l.length = 0 ∧ r.rs.size = 0 ∧ r.ve ≤ 1)
 else if r.op = 7 then decide (r.ve = 0 ∧ r.wa = 0 ∧ r.ow = 0 ∧ l.length = 0 ∧ r.rs.size ≤ 64)
 else false
def CM.now (c : CM) : List F5 := (c.V[c.V.length - 1]?.map VM.F).getD []
def CM.mrg (c : CM) (F : List F5) : List F5 := Go.Proofs.YtiknjghcjaaenaaGreatDoor.mrg (c.now.length + F.length) c.now F
def RM.create (s : RM) (r : RQ) (F : List F5) (pl : Nat) : RM × RA :=
 if crCode s.S r.ac r.wa r.ow ≠ 0 then (s, RA.no (crCode s.S r.ac r.wa r.ow))
 else if 256 ≤ s.C.length then (s, RA.no 9)
 else (⟨s.S, s.C ++ [⟨r.wa, r.ow, false, [], [⟨r.ac, pl, F, false⟩]⟩]⟩, ⟨0, s.C.length + 1, 1, [], []⟩)
def RM.amend (s : RM) (r : RQ) (c : CM) (F : List F5) (pl : Nat) : RM × RA :=
 if amCode s.S r.ac c F ≠ 0 then (s, RA.no (amCode s.S r.ac c F))
 else if r.ve = 0 ∨ c.V.length < r.ve then (s, RA.no 4)
 else if r.ve ≠ c.V.length then (s, RA.no 7)
 else if 64 ≤ c.V.length ∨ 32 < (c.mrg F).length then (s, RA.no 9)
 else if remU c.now F = true then (s, RA.no 10)
 else (⟨s.S, s.C.set (r.rc - 1) ⟨c.wa, c.ow, c.sl, c.G, c.V ++ [⟨r.ac, pl, c.mrg F, false⟩]⟩⟩, ⟨0, r.rc, c.V.length + 1, [], []⟩)
def RQ.vn (r : RQ) (c : CM) : Nat := if r.ve = 0 then c.V.length else r.ve
def RM.read (s : RM) (r : RQ) (c : CM) : RM × RA :=
 if rdCode s.S r.ac c ≠ 0 then (s, RA.no (rdCode s.S r.ac c))
 else if r.vn c = 0 then (s, RA.no 4)
 else match c.V[r.vn c - 1]? with
  | none => (s, RA.no 4)
  | some v => if v.rd then (s, RA.no 8) else (s, ⟨0, r.rc, r.vn c, v.F, []⟩)
def RM.redact (s : RM) (r : RQ) (c : CM) : RM × RA :=
 if reCode s.S r.ac c ≠ 0 then (s, RA.no (reCode s.S r.ac c))
 else if r.ve = 0 then (s, RA.no 4)
 else match c.V[r.ve - 1]? with
  | none => (s, RA.no 4)
  | some v => if v.rd then (s, RA.no 8) else (⟨s.S, s.C.set (r.rc - 1) ⟨c.wa, c.ow, c.sl, c.G, c.V.set (r.ve - 1) ⟨v.au, v.ev, [], true⟩⟩⟩, ⟨0, r.rc, r.ve, [], []⟩)
def RM.history (s : RM) (r : RQ) (c : CM) : RM × RA :=
 if hiCode s.S r.ac c ≠ 0 then (s, RA.no (hiCode s.S r.ac c)) else (s, ⟨0, r.rc, c.V.length, [], c.V.map VM.sum⟩)
def RM.seal (s : RM) (r : RQ) (c : CM) : RM × RA :=
 if seCode s.S r.ac c ≠ 0 then (s, RA.no (seCode s.S r.ac c))
 else (⟨s.S, s.C.set (r.rc - 1) ⟨c.wa, c.ow, decide (r.ve = 1), [], c.V⟩⟩, ⟨0, r.rc, 0, [], []⟩)
def RM.break (s : RM) (r : RQ) (c : CM) : RM × RA :=
 if brCode s.S r.ac c r.rs ≠ 0 then (s, RA.no (brCode s.S r.ac c r.rs))
 else (⟨s.S, s.C.set (r.rc - 1) ⟨c.wa, c.ow, c.sl, insN r.ac c.G, c.V⟩⟩, ⟨0, r.rc, 0, [], []⟩)
def RM.op (s : RM) (r : RQ) (c : CM) (F : List F5) (pl : Nat) : RM × RA :=
 if r.op = 2 then s.amend r c F pl else if r.op = 3 then s.read r c else if r.op = 4 then s.redact r c else if r.op = 5 then s.history r c else if r.op = 6 then s.seal r c else s.break r c
def RM.step (s : RM) (r : RQ) (F : List F5) (pl : Nat) : RM × RA :=
 if r.frm F = false then (s, RA.no 2)
 else if (perso s.S r.ac).isSome = false then (s, RA.no 1)
 else if r.op = 1 then s.create r F pl
 else if r.rc = 0 then (s, RA.no 3)
 else match s.C[r.rc - 1]? with
  | none => (s, RA.no 3)
  | some c => s.op r c F pl
def FGood (f : F5) : Prop := f.n.size ≤ 64 ∧ f.t.size ≤ 64 ∧ f.v < 4294967296 ∧ f.u < 256
structure CM.Ok (c : CM) : Prop where
 G : c.G.Pairwise (· < ·)
 g : ∀ k ∈ c.G, k < 4294967296
 V1 : 1 ≤ c.V.length
 V : c.V.length ≤ 64
 F : ∀ v ∈ c.V, v.F.length ≤ 32 ∧ ∀ f ∈ v.F, FGood f
structure RM.Ok (s : RM) : Prop where
 S : s.S.length ≤ 140737488355328
 C : s.C.length ≤ 256
 c : ∀ c ∈ s.C, c.Ok
theorem rise_len : ∀ (l : List Nat) (a : Nat), (∀ k ∈ l, a ≤ k ∧ k < 4294967296) → l.Pairwise (· < ·) → l.length ≤ 4294967296 - a
 | [], a, _, _ => by simp
 | x :: r, a, h, hp => by
  have h1 := h x (by simp)
  have h2 := rise_len r (x + 1) (fun k hk => ⟨(List.pairwise_cons.1 hp).1 k hk, (h k (by simp [hk])).2⟩) (List.pairwise_cons.1 hp).2
  simp only [List.length_cons]
  omega
theorem CM.Ok.len {c : CM} (h : c.Ok) : c.G.length ≤ 140737488355328 := by
 have := rise_len c.G 0 (fun k hk => ⟨Nat.zero_le _, h.g k hk⟩) h.G
 omega
theorem insN_mem {k x : Nat} : ∀ {l : List Nat}, x ∈ insN k l ↔ x = k ∨ x ∈ l
 | [] => by simp [insN]
 | y :: r => by
  unfold insN
  split
  ·simp
  ·split
   ·rename_i h1 h2
    subst h2
    simp
   ·simp only [List.mem_cons, insN_mem (l := r)]
    constructor <;> (intro h; rcases h with h | h | h <;> simp [h])
theorem insN_rise {k : Nat} : ∀ {l : List Nat}, l.Pairwise (· < ·) → (insN k l).Pairwise (· < ·)
 | [], _ => by simp [insN]
 | y :: r, h => by
  obtain ⟨h1, h2⟩ := List.pairwise_cons.1 h
  unfold insN
  split
  ·rename_i h3
   refine List.pairwise_cons.2 ⟨fun z hz => ?_, h⟩
   rcases List.mem_cons.1 hz with rfl | hz
   ·exact h3
   ·exact Nat.lt_trans h3 (h1 z hz)
  ·split
   ·exact h
   ·refine List.pairwise_cons.2 ⟨fun z hz => ?_, insN_rise h2⟩
    rcases insN_mem.1 hz with rfl | hz
    ·omega
    ·exact h1 z hz
theorem keptF_mem {f : F5} {l : List F5} (h : f ∈ keptF l) : f ∈ l := by
 unfold keptF at h
 exact (List.mem_filter.1 h).1
theorem mrg_mem {f : F5} : ∀ (n : Nat) (l m : List F5), f ∈ Go.Proofs.YtiknjghcjaaenaaGreatDoor.mrg n l m → f ∈ l ∨ f ∈ m
 | 0, l, m, h => by
  simp only [Go.Proofs.YtiknjghcjaaenaaGreatDoor.mrg, List.mem_append] at h
  exact h.imp id keptF_mem
 | n + 1, [], m, h => by
  rw [mrg_l] at h
  exact .inr (keptF_mem h)
 | n + 1, x :: r, [], h => by
  rw [mrg_r] at h
  exact .inl h
 | n + 1, x :: r, y :: t, h => by
  unfold Go.Proofs.YtiknjghcjaaenaaGreatDoor.mrg at h
  split at h
  ·split at h
   ·rcases List.mem_append.1 h with h | h
    ·exact .inr (List.mem_cons.2 (.inl (by have := keptF_mem h; simpa using this)))
    ·rcases mrg_mem n r t h with h | h
     ·exact .inl (List.mem_cons.2 (.inr h))
     ·exact .inr (List.mem_cons.2 (.inr h))
   ·rcases List.mem_cons.1 h with h | h
    ·exact .inl (List.mem_cons.2 (.inl h))
    ·rcases mrg_mem n r (y :: t) h with h | h
     ·exact .inl (List.mem_cons.2 (.inr h))
     ·exact .inr h
  ·rcases List.mem_append.1 h with h | h
   ·exact .inr (List.mem_cons.2 (.inl (by have := keptF_mem h; simpa using this)))
   ·rcases mrg_mem n (x :: r) t h with h | h
    ·exact .inl h
    ·exact .inr (List.mem_cons.2 (.inr h))
theorem risB_fld {gone : Bool} : ∀ {l : List F5} {a : ByteArray}, risB gone a l = true → ∀ f ∈ l, f.n.size ≤ 64 ∧ f.t.size ≤ 64
 | [], _, _, f, hf => by cases hf
 | x :: r, a, h, f, hf => by
  simp only [risB, Bool.and_eq_true] at h
  rcases List.mem_cons.1 hf with rfl | hf
  ·have h1 := h.1.1.2
   simp only [fldB, Bool.and_eq_true, decide_eq_true_eq] at h1
   exact h1.1
  ·exact risB_fld h.2 f hf
theorem fdsB_good {l : List F5} {gone : Bool} (h : fdsB l gone = true) (hv : ∀ f ∈ l, f.v < 4294967296 ∧ f.u < 256) : l.length ≤ 32 ∧ ∀ f ∈ l, FGood f := by
 simp only [fdsB, Bool.and_eq_true, decide_eq_true_eq] at h
 refine ⟨h.1, fun f hf => ?_⟩
 obtain ⟨h1, h2⟩ := risB_fld h.2 f hf
 exact ⟨h1, h2, hv f hf⟩
theorem RQ.frm_good {r : RQ} {l : List F5} (h : r.frm l = true) (hv : ∀ f ∈ l, f.v < 4294967296 ∧ f.u < 256) : l.length ≤ 32 ∧ ∀ f ∈ l, FGood f := by
 have h0 : l.length = 0 → l.length ≤ 32 ∧ ∀ f ∈ l, FGood f := fun e => by
  obtain rfl := List.length_eq_zero_iff.1 e
  exact ⟨by simp, fun f hf => by cases hf⟩
 unfold RQ.frm at h
 split at h
 ·rw [Bool.and_eq_true] at h; exact fdsB_good h.2 hv
 split at h
 ·rw [Bool.and_eq_true] at h; exact fdsB_good h.2 hv
 split at h
 ·exact h0 (of_decide_eq_true h).2.2.1
 split at h
 ·exact h0 (of_decide_eq_true h).2.2.1
 split at h
 ·exact h0 (of_decide_eq_true h).2.2.2.1
 split at h
 ·exact h0 (of_decide_eq_true h).2.2.1
 split at h
 ·exact h0 (of_decide_eq_true h).2.2.2.1
 cases h
theorem CM.Ok.now {c : CM} (h : c.Ok) : c.now.length ≤ 32 ∧ ∀ f ∈ c.now, FGood f := by
 unfold CM.now
 rcases e : c.V[c.V.length - 1]? with _ | v
 ·exact ⟨by simp, fun f hf => by cases hf⟩
 ·exact h.F v (List.mem_of_getElem? e)
theorem RM.Ok.at {s : RM} (h : s.Ok) {i : Nat} {c : CM} (hc : s.C[i]? = some c) : c.Ok := h.c c (List.mem_of_getElem? hc)
theorem RM.Ok.set {s : RM} (h : s.Ok) (i : Nat) {c : CM} (hc : c.Ok) : RM.Ok ⟨s.S, s.C.set i c⟩ :=
 ⟨h.S, by simpa using h.C, fun d hd => by
  rcases List.mem_or_eq_of_mem_set hd with hd | rfl
  ·exact h.c d hd
  ·exact hc⟩
theorem RM.Ok.step {s : RM} (h : s.Ok) (r : RQ) (F : List F5) (pl : Nat) (hv : ∀ f ∈ F, f.v < 4294967296 ∧ f.u < 256) (ha : r.ac < 4294967296) : (s.step r F pl).1.Ok := by
 unfold RM.step
 split
 ·exact h
 rename_i hfm
 obtain ⟨hF1, hF2⟩ := RQ.frm_good (by simpa using hfm) hv
 split
 ·exact h
 split
 ·unfold RM.create
  split
  ·exact h
  split
  ·exact h
  ·rename_i hn
   refine ⟨h.S, by simp; omega, fun c hc => ?_⟩
   rcases List.mem_append.1 hc with hc | hc
   ·exact h.c c hc
   ·rw [List.mem_singleton] at hc
    subst hc
    exact ⟨List.Pairwise.nil, fun k hk => (by cases hk), by simp, by simp, fun v hv => by rw [List.mem_singleton] at hv; subst hv; exact ⟨hF1, hF2⟩⟩
 split
 ·exact h
 split
 ·exact h
 rename_i c hc
 have ho := h.at hc
 unfold RM.op
 split
 ·unfold RM.amend
  split
  ·exact h
  split
  ·exact h
  split
  ·exact h
  split
  ·exact h
  rename_i hn
  split
  ·exact h
  refine h.set _ ⟨ho.G, ho.g, by simp, by simp; omega, fun v hv => ?_⟩
  rcases List.mem_append.1 hv with hv | hv
  ·exact ho.F v hv
  ·rw [List.mem_singleton] at hv
   subst hv
   refine ⟨by show (c.mrg F).length ≤ 32; omega, fun f hf => ?_⟩
   rcases mrg_mem _ _ _ hf with hf | hf
   ·exact ho.now.2 f hf
   ·exact hF2 f hf
 split
 ·unfold RM.read
  split
  ·exact h
  split
  ·exact h
  split
  ·exact h
  ·split <;> exact h
 split
 ·unfold RM.redact
  split
  ·exact h
  split
  ·exact h
  split
  ·exact h
  ·split
   ·exact h
   ·refine h.set _ ⟨ho.G, ho.g, by simpa using ho.V1, by simpa using ho.V, fun v hv => ?_⟩
    rcases List.mem_or_eq_of_mem_set hv with hv | rfl
    ·exact ho.F v hv
    ·exact ⟨by simp, fun f hf => by cases hf⟩
 split
 ·unfold RM.history
  split <;> exact h
 split
 ·unfold RM.seal
  split
  ·exact h
  ·exact h.set _ ⟨List.Pairwise.nil, fun k hk => (by cases hk), ho.V1, ho.V, ho.F⟩
 ·unfold RM.break
  split
  ·exact h
  ·refine h.set _ ⟨insN_rise ho.G, fun k hk => ?_, ho.V1, ho.V, ho.F⟩
   rcases insN_mem.1 hk with rfl | hk
   ·exact ha
   ·exact ho.g k hk
end Go.Proofs.YtiknjghcjaaenaaGreatDoor
