import Derived.Test.YtiknjghcjaaenaaGreatDoorPr3
import Derived.Test.YtiknjghcjaaenaaGreatDoorPr2
import Derived.Test.YtiknjghcjaaenaaGreatDoorKOac
import Derived.BigQuiet
import Derived.Laws.StructEq
import Derived.Test.YtiknjghcjaaenaaGreatDoorPr1
import Derived.Test.YtiknjghcjaaenaaGreatDoorCards
import Derived.Test.YtiknjghcjaaenaaGreatDoorTie
import Derived.WalkKit
import Derived.ProofKit
import Derived.OpenShut
import Derived.LaidLaws
import Derived.Deep.DeepHandedRow
import Derived.Deep.DeepWitnessRowRef
import Derived.Test.YtiknjghcjaaenaaGreatDoorRows
import Derived.SizedLaws
import Derived.JoinedCond
import Derived.Deep.Slices
import Derived.Test.YtiknjghcjaaenaaGreatDoorKOab
import Derived.Lib.Strings
import Derived.Laws.BitsAllLaws
import Derived.Test.YtiknjghcjaaenaaGreatDoorKOai
namespace Go.Proofs.YtiknjghcjaaenaaGreatDoor
open Go.RowKit Go.Shelf
set_option linter.unusedSimpArgs false in
set_option maxHeartbeats 4000000 in
set_option maxRecDepth 100000 in
theorem apply_any (b : Nat) (s : RM) (q : RW) (M : Nat → Prop) (r : RQ) (F : List F5) (place : Nat) (w : World) (h : RsAt w b s q M) (ho : s.Ok) (hF : FdC w w.heap.size r.fv F) (hFl : F.length ≤ 140737488355328) (hv : ∀ f ∈ F, f.v < 4294967296 ∧ f.u < 256) (hg : GU w) :
  Calls Tryz.prog 10 #[.pointer (some ⟨b, 0, none⟩), r.v, .int .u32 (place : Nat)] w fun e w' => OpPost w b s q M r.cl r.nu (s.step r F place) e w' := by
 obtain ⟨W1, hW1⟩ : ∃ W1, W1 = (w.alloc (.cells r.cs 41)).alloc (.cells #[.int .u32 0, .int .u32 0, .int .u8 0, .int .u32 0, .int .u32 0, .slice none 0 0, .slice none 0 0] 45) := ⟨_, rfl⟩
 have hCB : CB w W1 w.heap.size r := by rw [hW1]; exact CB.new w r
 obtain ⟨xo, xc, hfv⟩ := hF.f.form
 have HAn : Hid (Calls Tryz.prog 22 #[.pointer (some ⟨b, 0, none⟩), r.v, .int .u32 (place : Nat)] W1 fun e w' => ∃ fo fn fc ho hn hc, e = .returned (.agg #[.int .u32 0, .int .u32 0, .int .u8 ((s.step r F place).2.co : Nat), .int .u32 ((s.step r F place).2.rc : Nat), .int .u32 ((s.step r F place).2.ve : Nat), .slice fo fn fc, .slice ho hn hc]) ∧ OpD W1 b s q M (s.step r F place) (.slice fo fn fc) (.slice ho hn hc) w') := by
  have hW := hCB.f
  refine (answer_any b s q M r F place W1 (h.fr hW) ho ⟨hF.f.fr hW, fun g o n c e h0 => Nat.lt_of_lt_of_le (hF.b g o n c e h0) hW.size, hF.c, hF.z⟩ hFl hv (hg.fr hW)).mono ?_
  rintro e w' ⟨fv, hv', he, hd⟩
  obtain ⟨⟨fo, fn, fc, rfl⟩, ho', hn, hc, rfl⟩ := hd.form
  exact ⟨fo, fn, fc, ho', hn, hc, he, hd⟩
 have HH := hide h
 have HC := hide hCB
 generalize s.step r F place = X at *
 simp only [RQ.v, RQ.cs] at *
 rw [hfv] at hW1 HAn ⊢
 clear hCB h hF hFl hv hg ho
 go_enter Tryz.func10, Tryz.ntmps10
 go_wp2_with fail
 rw [← hW1]
 clear hW1
 refine (unhide HAn).mono ?_
 rintro e w3 ⟨fo, fn, fc, ho, hn, hc, rfl, hd⟩
 have a3 := (OpD.kept (unhide HH) hd (B := w.heap.size + 1) (by omega) (lt_of_block (unhide HC).a)).trans (unhide HC).a
 have r3 := (OpD.kept (unhide HH) hd (B := w.heap.size) (by omega) (lt_of_block (unhide HC).r)).trans (unhide HC).r
 have hB := lt_of_block r3
 have hB1 := lt_of_block a3
 have hn1 : w3.heap.size ≠ w.heap.size := by omega
 have hn2 : w3.heap.size ≠ w.heap.size + 1 := by omega
 have q0 : w3.cell? ⟨w.heap.size, 0, none⟩ = some (.int .u32 (r.cl : Nat)) := by simp only [World.cell?, r3]; rfl
 have q1 : w3.cell? ⟨w.heap.size, 1, none⟩ = some (.int .u32 (r.nu : Nat)) := by simp only [World.cell?, r3]; rfl
 obtain ⟨e0, e1, e2, e3, e4, e5, e6, y0, y1, y2, y3, y4, y5, y6⟩ := ansc a3
 have HD3 := hide hd
 clear a3 r3 hd HAn
 go_wp2_with fail
 refine bodyPost_ret (results_cell_mid rfl _ _ (w.heap.size + 1) 0 [.int .u32 (r.cl : Nat), .int .u32 (r.nu : Nat), .int .u8 (X.2.co : Nat), .int .u32 (X.2.rc : Nat), .int .u32 (X.2.ve : Nat), .slice fo fn fc, .slice ho hn hc] _ rfl ?_ Tryz.underlying45 rfl (by kernel_rfl)) rfl ?_
 ·intro j v hv
  rcases j with _ | _ | _ | _ | _ | _ | _ | j
  ·simp at hv; subst hv; go_simp
  ·simp at hv; subst hv; go_simp
  ·simp at hv; subst hv; go_simp
  ·simp at hv; subst hv; go_simp
  ·simp at hv; subst hv; go_simp
  ·simp at hv; subst hv; go_simp
  ·simp at hv; subst hv; go_simp
  ·simp at hv
 ·exact ⟨_, _, rfl, OpD.out (unhide HH) (unhide HC).f (B := w.heap.size + 1) (by omega) (lt_of_block (unhide HC).a) (unhide HD3) ((set7_fr _ _ _ _ _ _ _ _ _).alloc _)⟩
def R10 (w : World) (g p : Nat) (r : RQ) : Prop := w.cell? ⟨g, p, none⟩ = some (.int .u32 (r.cl : Nat)) ∧ w.cell? ⟨g, p + 1, none⟩ = some (.int .u32 (r.nu : Nat)) ∧ w.cell? ⟨g, p + 2, none⟩ = some (.int .u32 (r.ac : Nat)) ∧ w.cell? ⟨g, p + 3, none⟩ = some (.int .u8 (r.op : Nat)) ∧ w.cell? ⟨g, p + 4, none⟩ = some (.int .u32 (r.rc : Nat)) ∧ w.cell? ⟨g, p + 5, none⟩ = some (.int .u32 (r.ve : Nat)) ∧ w.cell? ⟨g, p + 6, none⟩ = some (.int .u32 (r.wa : Nat)) ∧ w.cell? ⟨g, p + 7, none⟩ = some (.int .u32 (r.ow : Nat)) ∧ w.cell? ⟨g, p + 8, none⟩ = some r.fv ∧ w.cell? ⟨g, p + 9, none⟩ = some (.string r.rs)
theorem R10.frS {w w' : World} {g p : Nat} {r : RQ} {S : Nat → Prop} (h : R10 w g p r) (hf : Fr S w w') (hS : ¬ S g) : R10 w' g p r := by
 obtain ⟨h0, h1, h2, h3, h4, h5, h6, h7, h8, h9⟩ := h
 have hg : g < w.heap.size := lt_of_cell h0
 exact ⟨(hf.cell (p := ⟨g, _, none⟩) hg hS).trans h0, (hf.cell (p := ⟨g, _, none⟩) hg hS).trans h1, (hf.cell (p := ⟨g, _, none⟩) hg hS).trans h2, (hf.cell (p := ⟨g, _, none⟩) hg hS).trans h3, (hf.cell (p := ⟨g, _, none⟩) hg hS).trans h4, (hf.cell (p := ⟨g, _, none⟩) hg hS).trans h5, (hf.cell (p := ⟨g, _, none⟩) hg hS).trans h6, (hf.cell (p := ⟨g, _, none⟩) hg hS).trans h7, (hf.cell (p := ⟨g, _, none⟩) hg hS).trans h8, (hf.cell (p := ⟨g, _, none⟩) hg hS).trans h9⟩
structure Rqs (w : World) (x : Value) (l : List (RQ × List F5)) : Prop where
 f : (∃ a c, x = .slice a 0 c ∧ l = []) ∨ ∃ g o c, x = .slice (some ⟨g, o, none⟩) l.length c ∧ ∀ j (h : j < l.length), R10 w g (o + j * 10) l[j].1
 d : ∀ p ∈ l, FdC w w.heap.size p.1.fv p.2
theorem FdC.frF {w w' : World} {x : Value} {l : List F5} (h : FdC w w.heap.size x l) (hf : Fr (fun _ => False) w w') : FdC w' w'.heap.size x l := ⟨h.f.fr hf, fun g o n c e h0 => Nat.lt_of_lt_of_le (h.b g o n c e h0) hf.size, h.c, h.z⟩
theorem Rqs.fr {w w' : World} {x : Value} {l : List (RQ × List F5)} (h : Rqs w x l) (hf : Fr (fun _ => False) w w') : Rqs w' x l := by
 refine ⟨?_, fun p hp => (h.d p hp).frF hf⟩
 rcases h.f with h1 | ⟨g, o, c, h1, h2⟩
 ·exact .inl h1
 ·exact .inr ⟨g, o, c, h1, fun j hj => (h2 j hj).frS hf (fun h => h)⟩
theorem Rqs.form {w : World} {x : Value} {l : List (RQ × List F5)} (h : Rqs w x l) : ∃ xo xc, x = .slice xo l.length xc := by
 rcases h.f with ⟨a, c, rfl, rfl⟩ | ⟨g, o, c, rfl, _⟩ <;> exact ⟨_, _, rfl⟩
theorem Rqs.at_ {w : World} {xo : Option Addr} {n c : Nat} {l : List (RQ × List F5)} (h : Rqs w (.slice xo n c) l) (j : Nat) (hj : j < l.length) : ∃ g o, xo = some ⟨g, o, none⟩ ∧ R10 w g (o + j * 10) l[j].1 := by
 rcases h.f with ⟨_, _, _, rfl⟩ | ⟨g, o, c', e, h2⟩
 ·simp at hj
 ·simp only [Value.slice.injEq] at e
  obtain ⟨rfl, _, _⟩ := e
  exact ⟨g, o, rfl, h2 j hj⟩
def kn : List P3 := [⟨1, 1, 7⟩, ⟨2, 2, 7⟩, ⟨3, 3, 7⟩, ⟨4, 3, 8⟩, ⟨5, 4, 0⟩, ⟨6, 5, 0⟩]
set_option maxHeartbeats 2000000 in
set_option maxRecDepth 100000 in
theorem known_any (w : World) : Calls Tryz.prog 20 #[] w fun e w' => ∃ ao, e = .returned (.slice (some ao) 6 6) ∧ Stf w' (.slice (some ao) 6 6) kn ∧ Fr (fun _ => False) w w' := by
 go_enter Tryz.func20, Tryz.ntmps20
 go_wp2_with fail
 go_ret
 refine ⟨_, rfl, .inr ⟨w.heap.size, 0, 6, rfl, ?_⟩, (Fr.refl _ _).alloc _⟩
 intro j hj
 have hj6 : j < 6 := hj
 simp only [World.cell?_alloc_at _ _ _ _ rfl]
 match j, hj6 with
 | 0, _ => exact ⟨rfl, rfl, rfl⟩
 | 1, _ => exact ⟨rfl, rfl, rfl⟩
 | 2, _ => exact ⟨rfl, rfl, rfl⟩
 | 3, _ => exact ⟨rfl, rfl, rfl⟩
 | 4, _ => exact ⟨rfl, rfl, rfl⟩
 | 5, _ => exact ⟨rfl, rfl, rfl⟩
def fT (s : ByteArray) : F5 := ⟨⟨#[110, 97, 109, 101]⟩, 1, s, 0, 0⟩
def fQ (v : Nat) : F5 := ⟨⟨#[116, 101, 109, 112]⟩, 2, ⟨#[]⟩, v, 11⟩
def fG : F5 := ⟨⟨#[110, 97, 109, 101]⟩, 3, ⟨#[]⟩, 0, 0⟩
def f8 : F5 := ⟨⟨#[116, 101, 109, 112]⟩, 2, ⟨#[]⟩, 1084227584, 8⟩
set_option maxRecDepth 100000 in
theorem fq_any (v : Nat) (w : World) : Calls Tryz.prog 34 #[.float .f32 v] w fun e w' => e = .returned (.agg #[.string ⟨#[116, 101, 109, 112]⟩, .int .u8 2, .string ⟨#[]⟩, .float .f32 v, .int .u8 11]) ∧ Fr (fun _ => False) w w' := by
 go_enter Tryz.func34, Tryz.ntmps34
 go_wp2_with fail
 refine bodyPost_ret (results_cell_mid rfl _ _ w.heap.size 0 [.string ⟨#[116, 101, 109, 112]⟩, .int .u8 2, .string ⟨#[]⟩, .float .f32 v, .int .u8 11] _ rfl ?_ Tryz.underlying55 rfl (by kernel_rfl)) rfl ?_
 ·exact range_new w _ _ _ rfl
 ·exact ⟨rfl, box1 w _⟩
set_option maxRecDepth 100000 in
theorem ft_any (s : ByteArray) (w : World) : Calls Tryz.prog 33 #[.string s] w fun e w' => e = .returned (.agg #[.string ⟨#[110, 97, 109, 101]⟩, .int .u8 1, .string s, .float .f32 0, .int .u8 0]) ∧ Fr (fun _ => False) w w' := by
 go_enter Tryz.func33, Tryz.ntmps33
 go_wp2_with fail
 refine bodyPost_ret (results_cell_mid rfl _ _ w.heap.size 0 [.string ⟨#[110, 97, 109, 101]⟩, .int .u8 1, .string s, .float .f32 0, .int .u8 0] _ rfl ?_ Tryz.underlying55 rfl (by kernel_rfl)) rfl ?_
 ·exact range_new w _ _ _ rfl
 ·exact ⟨rfl, box1 w _⟩
def stL (z0 z1 z2 z3 z4 z5 : Nat) : List (RQ × List F5) := [(⟨0, 0, 1, 1, 0, 0, 7, 6, .slice (some ⟨z0, 0, none⟩) 1 1, ⟨#[]⟩⟩, [fT ⟨#[65, 100, 97]⟩]),
 (⟨0, 0, 2, 2, 1, 1, 0, 0, .slice (some ⟨z1, 0, none⟩) 1 1, ⟨#[]⟩⟩, [fQ 1108606976]),
 (⟨0, 0, 1, 2, 1, 2, 0, 0, .slice (some ⟨z2, 0, none⟩) 1 1, ⟨#[]⟩⟩, [fQ 1108869120]),
 (⟨0, 0, 3, 2, 1, 1, 0, 0, .slice (some ⟨z3, 0, none⟩) 1 1, ⟨#[]⟩⟩, [fQ 1109131264]),
 (⟨0, 0, 3, 2, 1, 2, 0, 0, .slice (some ⟨z4, 0, none⟩) 2 2, ⟨#[]⟩⟩, [fG, fQ 1109131264]),
 (⟨0, 0, 6, 3, 1, 0, 0, 0, .slice none 0 0, ⟨#[]⟩⟩, []),
 (⟨0, 0, 6, 3, 1, 2, 0, 0, .slice none 0 0, ⟨#[]⟩⟩, []),
 (⟨0, 0, 6, 3, 1, 9, 0, 0, .slice none 0 0, ⟨#[]⟩⟩, []),
 (⟨0, 0, 6, 6, 1, 1, 0, 0, .slice none 0 0, ⟨#[]⟩⟩, []),
 (⟨0, 0, 2, 3, 1, 0, 0, 0, .slice none 0 0, ⟨#[]⟩⟩, []),
 (⟨0, 0, 4, 7, 1, 0, 0, 0, .slice none 0 0, ⟨#[104, 101, 97, 114, 116]⟩⟩, []),
 (⟨0, 0, 4, 3, 1, 1, 0, 0, .slice none 0 0, ⟨#[]⟩⟩, []),
 (⟨0, 0, 6, 6, 1, 1, 0, 0, .slice none 0 0, ⟨#[]⟩⟩, []),
 (⟨0, 0, 4, 3, 1, 0, 0, 0, .slice none 0 0, ⟨#[]⟩⟩, []),
 (⟨0, 0, 3, 4, 1, 1, 0, 0, .slice none 0 0, ⟨#[]⟩⟩, []),
 (⟨0, 0, 3, 3, 1, 1, 0, 0, .slice none 0 0, ⟨#[]⟩⟩, []),
 (⟨0, 0, 5, 5, 1, 0, 0, 0, .slice none 0 0, ⟨#[]⟩⟩, []),
 (⟨0, 0, 3, 2, 1, 3, 0, 0, .slice (some ⟨z5, 0, none⟩) 1 1, ⟨#[]⟩⟩, [f8]),
 (⟨0, 0, 9, 3, 1, 0, 0, 0, .slice none 0 0, ⟨#[]⟩⟩, []),
 (⟨0, 0, 3, 3, 2, 0, 0, 0, .slice none 0 0, ⟨#[]⟩⟩, [])]
theorem lit_fdc {w : World} {z n : Nat} {l : List F5} {cs : Array Value} (hb : w.heap[z]? = some (.cells cs 55)) (hc : cs.toList = fcells l) (hn : l.length = n) : FdC w w.heap.size (.slice (some ⟨z, 0, none⟩) n n) l := by
 subst hn
 refine ⟨.inr ⟨z, 0, l.length, rfl, fun j hj => ?_⟩, fun g o n c e _ => by cases e; exact lt_of_block hb, fun xo n c e => by cases e; exact Nat.le_refl _, fun n c e => by cases e⟩
 have ha := fcells_at l j hj
 rw [← hc] at ha
 simp only [Nat.zero_add]
 obtain ⟨a0, a1, a2, a3, a4⟩ := ha
 simp only [Array.getElem?_toList] at a0 a1 a2 a3 a4
 simp only [World.cell?, hb]
 exact ⟨a0, a1, a2, a3, a4⟩
theorem nil_fdc {w : World} : FdC w w.heap.size (.slice none 0 0) [] := ⟨fds_nil w, fun g o n c e _ => (by cases e), fun xo n c e => (by cases e; exact Nat.le_refl _), fun n c e => (by cases e; rfl)⟩
def Rqb (x : Value) (l : List (RQ × List F5)) (k : Nat) : Prop := (∃ o n c, x = .slice (some ⟨k, o, none⟩) n c ∧ 0 < n) ∨ ∃ p ∈ l, ∃ o n c, p.1.fv = .slice (some ⟨k, o, none⟩) n c ∧ 0 < n
theorem Rqs.frS {w w' : World} {x : Value} {l : List (RQ × List F5)} {S : Nat → Prop} (h : Rqs w x l) (hf : Fr S w w') (hS : ∀ k, Rqb x l k → ¬ S k) : Rqs w' x l := by
 refine ⟨?_, fun p hp => ⟨(h.d p hp).f.frS hf (fun g o n c e h0 => hS g (.inr ⟨p, hp, o, n, c, e, h0⟩)), fun g o n c e h0 => Nat.lt_of_lt_of_le ((h.d p hp).b g o n c e h0) hf.size, (h.d p hp).c, (h.d p hp).z⟩⟩
 rcases h.f with h1 | ⟨g, o, c, h1, h2⟩
 ·exact .inl h1
 ·exact .inr ⟨g, o, c, h1, fun j hj => (h2 j hj).frS hf (hS g (.inl ⟨o, _, c, h1, by omega⟩))⟩
theorem Rqs.lt {w : World} {x : Value} {l : List (RQ × List F5)} (h : Rqs w x l) {k : Nat} (hk : Rqb x l k) : k < w.heap.size := by
 rcases hk with ⟨o, n, c, e, h0⟩ | ⟨p, hp, o, n, c, e, h0⟩
 ·subst e
  rcases h.f with ⟨a, c', e, _⟩ | ⟨g, o', c', e, h2⟩
  ·cases e; omega
  ·cases e
   exact lt_of_cell (h2 0 h0).1
 ·exact (h.d p hp).b k o n c e h0
def rcells (l : List (RQ × List F5)) : List Value := l.flatMap fun p => p.1.cs.toList
theorem rcells_at (l : List (RQ × List F5)) : ∀ (j : Nat) (h : j < l.length) (k : Nat), k < 10 → (rcells l)[j * 10 + k]? = l[j].1.cs.toList[k]? := by
 induction l with
 | nil => intro j h; simp at h
 | cons p r ih =>
  intro j h k hk
  have e : rcells (p :: r) = p.1.cs.toList ++ rcells r := by simp [rcells]
  have hl : p.1.cs.toList.length = 10 := rfl
  rw [e]
  rcases j with _ | j
  ·rw [List.getElem?_append_left (by omega)]
   simp
  ·rw [List.getElem?_append_right (by omega), hl, show (j + 1) * 10 + k - 10 = j * 10 + k by omega, ih j (by simpa using h) k hk]
   rfl
theorem row_rqs {w : World} {z : Nat} {l : List (RQ × List F5)} {cs : Array Value} (hb : w.heap[z]? = some (.cells cs 41)) (hc : cs.toList = rcells l) (hd : ∀ p ∈ l, FdC w w.heap.size p.1.fv p.2) : Rqs w (.slice (some ⟨z, 0, none⟩) l.length l.length) l := by
 refine ⟨.inr ⟨z, 0, l.length, rfl, fun j hj => ?_⟩, hd⟩
 have ha : ∀ k, k < 10 → w.cell? ⟨z, j * 10 + k, none⟩ = l[j].1.cs.toList[k]? := fun k hk => by
  rw [← rcells_at l j hj k hk, ← hc]
  simp only [World.cell?, hb]
  simp
 rw [Nat.zero_add]
 exact ⟨ha 0 (by omega), ha 1 (by omega), ha 2 (by omega), ha 3 (by omega), ha 4 (by omega), ha 5 (by omega), ha 6 (by omega), ha 7 (by omega), ha 8 (by omega), ha 9 (by omega)⟩
theorem wp_bs {P : Program} {w : World} {op : Oper} {a : Act} {K : Act → World → Prop} {Q : Exit → Act → World → Prop} (v : Value) (w' : World) (hr : (execOp a.eval op).run P w = .ok (.value v) w') (h : K (a.put op.dst v) w') : op.wp P a w K Q := by
 unfold Oper.wp
 rw [hr]
 exact h
set_option maxHeartbeats 4000000 in
set_option maxRecDepth 100000 in
theorem story_any (w : World) : Calls Tryz.prog 21 #[] w fun e w' => ∃ g z0 z1 z2 z3 z4 z5, e = .returned (.slice (some ⟨g, 0, none⟩) 20 20) ∧ Rqs w' (.slice (some ⟨g, 0, none⟩) 20 20) (stL z0 z1 z2 z3 z4 z5) ∧ (∀ k, Rqb (.slice (some ⟨g, 0, none⟩) 20 20) (stL z0 z1 z2 z3 z4 z5) k → w.heap.size ≤ k) ∧ Fr (fun _ => False) w w' := by
 have HT := hide (ft_any ⟨#[65, 100, 97]⟩)
 have HQ := hide fq_any
 go_enter Tryz.func21, Tryz.ntmps21
 go_wp2_with fail
 refine ((unhide HT) _).mono ?_
 rintro e w0 ⟨rfl, hf0⟩
 have H0 := hide hf0
 have SZ0 := hide hf0.size
 clear hf0 HT
 go_wp2_with fail
 refine ((unhide HQ) _ _).mono ?_
 rintro e w1 ⟨rfl, hf1⟩
 have HZ0 := hide ((lit_fdc (l := [fT ⟨#[65, 100, 97]⟩]) (n := 1) (w := w0.alloc (.cells (fT ⟨#[65, 100, 97]⟩).cs 55)) Array.getElem?_push_size rfl rfl).frF hf1)
 have H1 := hide ((unhide H0).trans ((box1 w0 _).trans hf1 (fun _ _ h => h)) (fun _ _ h => h))
 have SZ1 := hide (unhide H1).size
 clear hf1 H0
 go_wp2_with fail
 refine ((unhide HQ) _ _).mono ?_
 rintro e w2 ⟨rfl, hf2⟩
 have HZ1 := hide ((lit_fdc (l := [fQ 1108606976]) (n := 1) (w := w1.alloc (.cells (fQ 1108606976).cs 55)) Array.getElem?_push_size rfl rfl).frF hf2)
 replace HZ0 := hide ((unhide HZ0).frF ((box1 w1 _).trans hf2 (fun _ _ h => h)))
 have H2 := hide ((unhide H1).trans ((box1 w1 _).trans hf2 (fun _ _ h => h)) (fun _ _ h => h))
 have SZ2 := hide (unhide H2).size
 clear hf2 H1
 go_wp2_with fail
 refine ((unhide HQ) _ _).mono ?_
 rintro e w3 ⟨rfl, hf3⟩
 have HZ2 := hide ((lit_fdc (l := [fQ 1108869120]) (n := 1) (w := w2.alloc (.cells (fQ 1108869120).cs 55)) Array.getElem?_push_size rfl rfl).frF hf3)
 replace HZ0 := hide ((unhide HZ0).frF ((box1 w2 _).trans hf3 (fun _ _ h => h)))
 replace HZ1 := hide ((unhide HZ1).frF ((box1 w2 _).trans hf3 (fun _ _ h => h)))
 have H3 := hide ((unhide H2).trans ((box1 w2 _).trans hf3 (fun _ _ h => h)) (fun _ _ h => h))
 have SZ3 := hide (unhide H3).size
 clear hf3 H2
 go_wp2_with fail
 refine ((unhide HQ) _ _).mono ?_
 rintro e w4 ⟨rfl, hf4⟩
 have HZ3 := hide ((lit_fdc (l := [fQ 1109131264]) (n := 1) (w := w3.alloc (.cells (fQ 1109131264).cs 55)) Array.getElem?_push_size rfl rfl).frF hf4)
 replace HZ0 := hide ((unhide HZ0).frF ((box1 w3 _).trans hf4 (fun _ _ h => h)))
 replace HZ1 := hide ((unhide HZ1).frF ((box1 w3 _).trans hf4 (fun _ _ h => h)))
 replace HZ2 := hide ((unhide HZ2).frF ((box1 w3 _).trans hf4 (fun _ _ h => h)))
 have H4 := hide ((unhide H3).trans ((box1 w3 _).trans hf4 (fun _ _ h => h)) (fun _ _ h => h))
 have SZ4 := hide (unhide H4).size
 clear hf4 H3
 clear HQ
 go_wp2_with fail
 generalize hW5 : w4.alloc (.cells #[.string ⟨#[110, 97, 109, 101]⟩, .int .u8 3, .string ⟨#[]⟩, .float .f32 0, .int .u8 0, .string ⟨#[116, 101, 109, 112]⟩, .int .u8 2, .string ⟨#[]⟩, .float .f32 1109131264, .int .u8 11] 55) = W5
 have hs5 : W5.heap.size = w4.heap.size + 1 := by rw [← hW5]; simp
 generalize hW6 : W5.alloc (.cells #[.string ⟨#[116, 101, 109, 112]⟩, .int .u8 2, .string ⟨#[]⟩, .float .f32 1084227584, .int .u8 8] 55) = W6
 have h45 : Fr (fun _ => False) w4 W5 := by rw [← hW5]; exact box1 w4 _
 have h56 : Fr (fun _ => False) W5 W6 := by rw [← hW6]; exact box1 W5 _
 have HZ4 := hide ((lit_fdc (l := [fG, fQ 1109131264]) (n := 2) (w := W5) (by rw [← hW5]; exact Array.getElem?_push_size) rfl rfl).frF h56)
 have HZ5 : Hid (FdC W6 W6.heap.size (.slice (some ⟨W5.heap.size, 0, none⟩) 1 1) [f8]) := lit_fdc (l := [f8]) (n := 1) (w := W6) (by rw [← hW6]; exact Array.getElem?_push_size) rfl rfl
 replace HZ0 := hide ((unhide HZ0).frF (h45.trans h56 (fun _ _ h => h)))
 replace HZ1 := hide ((unhide HZ1).frF (h45.trans h56 (fun _ _ h => h)))
 replace HZ2 := hide ((unhide HZ2).frF (h45.trans h56 (fun _ _ h => h)))
 replace HZ3 := hide ((unhide HZ3).frF (h45.trans h56 (fun _ _ h => h)))
 have H6 := hide ((unhide H4).trans (h45.trans h56 (fun _ _ h => h)) (fun _ _ h => h))
 rw [hs5] at HZ5
 clear hW5 hW6 h45 h56 hs5 H4
 generalize w0.heap.size = z0 at *
 generalize w1.heap.size = z1 at *
 generalize w2.heap.size = z2 at *
 generalize w3.heap.size = z3 at *
 generalize w4.heap.size = z4 at *
 refine wp_bs (.slice (some ⟨W6.heap.size, 0, none⟩) 20 20) (W6.alloc (.cells (rcells (stL z0 z1 z2 z3 z4 (z4 + 1))).toArray 41)) (by kernel_rfl) ?_
 rename_i K1 hK1 K2 hK2
 refine hK2 _ _ ?_
 simp only [Act.put, List.setIfInBounds_toArray, List.set_cons_zero, List.set_cons_succ]
 clear hK2
 go_wp2_with fail
 go_ret
 have hb := box1 W6 (.cells (rcells (stL z0 z1 z2 z3 z4 (z4 + 1))).toArray 41)
 refine ⟨W6.heap.size, z0, z1, z2, z3, z4, z4 + 1, rfl, row_rqs (l := stL z0 z1 z2 z3 z4 (z4 + 1)) Array.getElem?_push_size (by simp) (fun p hp => ?_), fun k hk => ?_, (unhide H6).trans hb (fun _ _ h => h)⟩
 rotate_left
 ·have s0 := unhide SZ0
  have s1 := unhide SZ1
  have s2 := unhide SZ2
  have s3 := unhide SZ3
  have s4 := unhide SZ4
  have s6 := (unhide H6).size
  rcases hk with ⟨o, n, c, e, _⟩ | ⟨p, hp, o, n, c, e, _⟩
  ·cases e; exact s6
  ·simp only [stL, List.mem_cons, List.not_mem_nil, or_false] at hp
   rcases hp with rfl | rfl | rfl | rfl | rfl | rfl | rfl | rfl | rfl | rfl | rfl | rfl | rfl | rfl | rfl | rfl | rfl | rfl | rfl | rfl <;> cases e <;> omega
 simp only [stL, List.mem_cons, List.not_mem_nil, or_false] at hp
 rcases hp with rfl | rfl | rfl | rfl | rfl | rfl | rfl | rfl | rfl | rfl | rfl | rfl | rfl | rfl | rfl | rfl | rfl | rfl | rfl | rfl
 ·exact (unhide HZ0).frF hb
 ·exact (unhide HZ1).frF hb
 ·exact (unhide HZ2).frF hb
 ·exact (unhide HZ3).frF hb
 ·exact (unhide HZ4).frF hb
 ·exact nil_fdc
 ·exact nil_fdc
 ·exact nil_fdc
 ·exact nil_fdc
 ·exact nil_fdc
 ·exact nil_fdc
 ·exact nil_fdc
 ·exact nil_fdc
 ·exact nil_fdc
 ·exact nil_fdc
 ·exact nil_fdc
 ·exact nil_fdc
 ·exact (unhide HZ5).frF hb
 ·exact nil_fdc
 ·exact nil_fdc
theorem OpD.to {w w' : World} {b : Nat} {s : RM} {q : RW} {M : Nat → Prop} {x : RM × RA} {fv hv : Value} (h0 : RsAt w b s q M) (h : OpD w b s q M x fv hv w') : RsTo w w' b s x.1 q M ∧ OwF w' w.heap.size fv x.2.F ∧ OwS w' w.heap.size hv x.2.H := by
 rcases h with ⟨e, f1, f2, f3⟩ | ⟨e1, e2, rfl, rfl, hr⟩
 ·refine ⟨?_, f2, f3⟩
  rw [e]
  exact ⟨q, M, h0.fr f1, fun k hk => .inl hk, fun k hk => .inl hk, f1.mono (fun _ _ h => h.elim)⟩
 ·refine ⟨hr, ?_, ?_⟩
  ·rw [e1]; exact World.ownsRow_nil _ _ _ _
  ·rw [e2]; exact World.ownsRow_nil _ _ _ _
def RsB (w : World) (b : Nat) (T : Nat → Prop) (s : RM) : Prop := ∃ q M, RsAt w b s q M ∧ (∀ k, M k → T k) ∧ ∀ k, q.uses s k → T k
theorem RsB.fr {w w' : World} {b : Nat} {T : Nat → Prop} {s : RM} (h : RsB w b T s) (hf : Fr (fun _ => False) w w') : RsB w' b T s := by
 obtain ⟨q, M, h1, h2⟩ := h
 exact ⟨q, M, h1.fr hf, h2⟩
theorem RsB.frS {w w' : World} {b : Nat} {T S : Nat → Prop} {s : RM} (h : RsB w b T s) (hf : Fr S w w') (hS : ∀ k, S k → ¬ T k) : RsB w' b T s := by
 obtain ⟨q, M, h1, h2, h3⟩ := h
 exact ⟨q, M, h1.frD hf (fun k hk hM => hS k hk (h2 k hM)) (fun k hk hU => hS k hk (h3 k hU)), h2, h3⟩
theorem apply_B (b : Nat) (T : Nat → Prop) (s : RM) (r : RQ) (F : List F5) (place : Nat) (w : World) (h : RsB w b T s) (ho : s.Ok) (hF : FdC w w.heap.size r.fv F) (hFl : F.length ≤ 140737488355328) (hv : ∀ f ∈ F, f.v < 4294967296 ∧ f.u < 256) (hg : GU w) (X : RM × RA) (hX : s.step r F place = X) :
  Calls Tryz.prog 10 #[.pointer (some ⟨b, 0, none⟩), r.v, .int .u32 (place : Nat)] w fun e w' => ∃ fo fn fc ho hn hc, e = .returned (.agg #[.int .u32 (r.cl : Nat), .int .u32 (r.nu : Nat), .int .u8 (X.2.co : Nat), .int .u32 (X.2.rc : Nat), .int .u32 (X.2.ve : Nat), .slice fo fn fc, .slice ho hn hc]) ∧ RsB w' b (fun k => T k ∨ (w.heap.size ≤ k ∧ k < w'.heap.size)) X.1 ∧ OwF w' w.heap.size (.slice fo fn fc) X.2.F ∧ OwS w' w.heap.size (.slice ho hn hc) X.2.H ∧ Fr T w w' := by
 subst hX
 obtain ⟨q, M, h1, h2, h3⟩ := h
 refine (apply_any b s q M r F place w h1 ho hF hFl hv hg).mono ?_
 rintro e w' ⟨fv, hv', he, hd⟩
 obtain ⟨⟨fo, fn, fc, rfl⟩, ho', hn, hc, rfl⟩ := hd.form
 obtain ⟨⟨q', M', k1, k2, k3, k4⟩, o1, o2⟩ := hd.to h1
 exact ⟨fo, fn, fc, ho', hn, hc, he, ⟨q', M', k1, fun k hk => (k2 k hk).imp (h2 k) (fun h => ⟨h, k1.lt k hk⟩), fun k hk => (k3 k hk).imp (h3 k) (fun h => ⟨h, k1.usesLt hk⟩)⟩, o1, o2, k4.mono (fun k _ hk => h2 k hk)⟩
theorem GU.frT {w w' : World} {T : Nat → Prop} (h : GU w) (hf : Fr T w w') (h0 : ¬ T 1) : GU w' := fun i hi => (hf.cell (p := ⟨_, _, none⟩) (lt_of_cell (h i hi)) h0).trans (h i hi)
theorem records_B (b : Nat) (T : Nat → Prop) (s : RM) (w : World) (h : RsB w b T s) : Calls Tryz.prog 15 #[.pointer (some ⟨b, 0, none⟩)] w fun e w' => e = .returned (.int .i64 (s.C.length : Nat)) ∧ w' = w := by
 obtain ⟨q, M, h1, h2⟩ := h
 exact records_any b s q M w h1
set_option maxRecDepth 100000 in
theorem new_B (x : Value) (S : List P3) (w : World) (hx : Stf w x S) (hz : ∀ n c, x = .slice none n c → c = 0) (hl : S.length ≤ 1000000) :
  Calls Tryz.prog 8 #[x] w fun e w' => ∃ b, e = .returned (.pointer (some ⟨b, 0, none⟩)) ∧ RsB w' b (fun k => w.heap.size ≤ k ∧ k < w'.heap.size) ⟨S, []⟩ ∧ Fr (fun _ => False) w w' := by
 obtain ⟨v, w1, hr, ho, hf⟩ := app_stf w x S hx hz hl
 obtain ⟨xo, xc, rfl⟩ := hx.form
 obtain ⟨vo, vc, rfl⟩ := own_formX ho
 have HR := hide hr
 have H1 := hide (And.intro ho hf)
 clear hr ho hf hx hz
 go_enter Tryz.func8, Tryz.ntmps8
 go_wp2_with (at_builtin; refine wpList_app rfl _ _ 22 22 rfl _ _ _ rfl rfl (unhide HR) ?_; clear HR)
 go_ret
 have hbx := box1 w1 (.cells #[.slice vo S.length vc, .slice none 0 0] 66)
 have hs1 := (unhide H1).2.size
 have hown : ∀ g o n c, Value.slice vo S.length vc = .slice (some ⟨g, o, none⟩) n c → w.heap.size ≤ g ∧ g < w1.heap.size := fun g o n c e => (unhide H1).1.lt g (by rw [e]; rfl)
 refine ⟨w1.heap.size, rfl, ⟨⟨.slice vo S.length vc, .slice none 0 0, fun _ => .slice none 0 0, fun _ => .slice none 0 0, fun _ _ => .slice none 0 0⟩, fun k => k = w1.heap.size, ⟨Array.getElem?_push_size, (own_stf (unhide H1).1).fr hbx, fun g o n c e h0 hM => ?_, World.ownsRow_nil _ _ _ _, fun i c hc => (by simp at hc), fun i c hc => (by simp at hc), fun i c j v hc => (by simp at hc), rfl, fun g hg => (by cases hg), fun i c hc => (by simp at hc), fun i c hc => (by simp at hc), fun i j c d hc => (by simp at hc), fun i j c d hc => (by simp at hc), fun k hk => (by subst hk; simp)⟩, fun k hk => ?_, fun k hk => ?_⟩, (unhide H1).2.trans hbx (fun _ _ h => h)⟩
 ·have := (hown g o n c e).2
  omega
 ·subst hk
  exact ⟨hs1, by simp⟩
 ·rcases hk with ⟨o, n, c, e, _⟩ | ⟨i, c, j, v, hc, _⟩
  ·have := hown k o n c e
   exact ⟨this.1, by simp; omega⟩
  ·simp at hc
theorem RsB.mono {w : World} {b : Nat} {T T' : Nat → Prop} {s : RM} (h : RsB w b T s) (hT : ∀ k, T k → T' k) : RsB w b T' s := by
 obtain ⟨q, M, h1, h2, h3⟩ := h
 exact ⟨q, M, h1, fun k hk => hT k (h2 k hk), fun k hk => hT k (h3 k hk)⟩
theorem apply_C (b : Nat) (T : Nat → Prop) (s : RM) (r : RQ) (F : List F5) (place : Nat) (w : World) (h : RsB w b T s) (hT : ∀ k, T k → k < w.heap.size) (ho : s.Ok) (hF : FdC w w.heap.size r.fv F) (hFl : F.length ≤ 140737488355328) (hv : ∀ f ∈ F, f.v < 4294967296 ∧ f.u < 256) (hg : GU w) (X : RM × RA) (hX : s.step r F place = X) :
  Calls Tryz.prog 10 #[.pointer (some ⟨b, 0, none⟩), r.v, .int .u32 (place : Nat)] w fun e w' => ∃ fo fn fc ho hn hc, e = .returned (.agg #[.int .u32 (r.cl : Nat), .int .u32 (r.nu : Nat), .int .u8 (X.2.co : Nat), .int .u32 (X.2.rc : Nat), .int .u32 (X.2.ve : Nat), .slice fo fn fc, .slice ho hn hc]) ∧ OwF w' w.heap.size (.slice fo fn fc) X.2.F ∧ OwS w' w.heap.size (.slice ho hn hc) X.2.H ∧ Fr T w w' ∧ ∃ T', RsB w' b T' X.1 ∧ (∀ k, T' k → T k ∨ w.heap.size ≤ k) ∧ (∀ k, T' k → k < w'.heap.size) ∧ (∀ g, (Value.slice fo fn fc).ownBlock = some g → ¬ T' g) ∧ (∀ g, (Value.slice ho hn hc).ownBlock = some g → ¬ T' g) := by
 subst hX
 obtain ⟨q, M, h1, h2, h3⟩ := h
 refine (apply_any b s q M r F place w h1 ho hF hFl hv hg).mono ?_
 rintro e w' ⟨fv, hv', he, hd⟩
 obtain ⟨⟨fo, fn, fc, rfl⟩, ho', hn, hc, rfl⟩ := hd.form
 obtain ⟨hto, o1, o2⟩ := hd.to h1
 refine ⟨fo, fn, fc, ho', hn, hc, he, o1, o2, ?_, ?_⟩
 ·obtain ⟨q', M', k1, k2, k3, k4⟩ := hto
  exact k4.mono (fun k _ hk => h2 k hk)
 ·rcases hd with ⟨e1, f1, f2, f3⟩ | ⟨e1, e2, e3, e4, hr⟩
  ·refine ⟨T, ?_, fun k hk => .inl hk, fun k hk => Nat.lt_of_lt_of_le (hT k hk) f1.size, fun g hg hT' => ?_, fun g hg hT' => ?_⟩
   ·rw [e1]
    exact ⟨q, M, h1.fr f1, h2, h3⟩
   ·have := (f2.lt g hg).1
    have := hT g hT'
    omega
   ·have := (f3.lt g hg).1
    have := hT g hT'
    omega
  ·obtain ⟨q', M', k1, k2, k3, k4⟩ := hr
   refine ⟨fun k => M' k ∨ q'.uses _ k, ⟨q', M', k1, fun k hk => .inl hk, fun k hk => .inr hk⟩, fun k hk => hk.elim (fun hk => (k2 k hk).imp (h2 k) id) (fun hk => (k3 k hk).imp (h3 k) id), fun k hk => hk.elim (k1.lt k) k1.usesLt, fun g hg => ?_, fun g hg => ?_⟩
   ·rw [e3] at hg; cases hg
   ·rw [e4] at hg; cases hg
def runM : RM → Nat → List (RQ × List F5) → List RA
 | _, _, [] => []
 | s, i, p :: r => (s.step p.1 p.2 i).2 :: runM (s.step p.1 p.2 i).1 (i + 1) r
def endM : RM → Nat → List (RQ × List F5) → RM
 | s, _, [] => s
 | s, i, p :: r => endM (s.step p.1 p.2 i).1 (i + 1) r
theorem runM_snoc : ∀ (l : List (RQ × List F5)) (s : RM) (i : Nat) (p : RQ × List F5), runM s i (l ++ [p]) = runM s i l ++ [((endM s i l).step p.1 p.2 (i + l.length)).2] ∧ endM s i (l ++ [p]) = ((endM s i l).step p.1 p.2 (i + l.length)).1
 | [], s, i, p => ⟨rfl, rfl⟩
 | x :: r, s, i, p => by
  obtain ⟨h1, h2⟩ := runM_snoc r (s.step x.1 x.2 i).1 (i + 1) p
  refine ⟨?_, ?_⟩
  ·show _ :: runM _ _ (r ++ [p]) = _
   rw [h1]
   simp only [runM, endM, List.length_cons, List.cons_append]
   rw [show i + 1 + r.length = i + (r.length + 1) by omega]
  ·show endM _ _ (r ++ [p]) = _
   rw [h2]
   simp only [endM, List.length_cons]
   rw [show i + 1 + r.length = i + (r.length + 1) by omega]
theorem runM_len : ∀ (l : List (RQ × List F5)) (s : RM) (i : Nat), (runM s i l).length = l.length
 | [], _, _ => rfl
 | x :: r, s, i => by simp only [runM, List.length_cons, runM_len r]
def PGood (p : RQ × List F5) : Prop := p.1.ac < 4294967296 ∧ p.2.length ≤ 140737488355328 ∧ ∀ f ∈ p.2, f.v < 4294967296 ∧ f.u < 256
def acells (l : List AN) : List Value := l.flatMap AN.cs
theorem acells_app (l : List AN) (a : AN) : acells (l ++ [a]) = acells l ++ a.cs := by simp [acells]
theorem Tryz.infoAn : (Tryz.prog.info? 45).map (fun i => (i.zero, i.size, i.bytes)) = some (some (.agg #[.int .u32 0, .int .u32 0, .int .u8 0, .int .u32 0, .int .u32 0, .slice none 0 0, .slice none 0 0]), 7, 72) := by kernel_rfl
theorem app_ans (w : World) (base x : Nat) (v : Value) (l : List AN) (a : AN) (h : w.ownsRow base 45 7 v l.length (acells l)) (hb : base ≤ w.heap.size) (hn : l.length ≤ 1000000000) (hx : w.heap[x]? = some (.cells a.cs.toArray 45)) (h1 : ∀ u ∈ a.cs, u.oneCell' = true) :
  ∃ ao cap w', (Builtin.append_ #[58, 58] 58 #[v, .slice (some ⟨x, 0, none⟩) 1 1]).run Tryz.prog w = .ok (.slice ao (l.length + 1) cap) w' ∧ w'.ownsRow base 45 7 (.slice ao (l.length + 1) cap) (l ++ [a]).length (acells (l ++ [a])) ∧ Fr (fun g => v.ownBlock = some g) w w' ∧ ∀ g, (Value.slice ao (l.length + 1) cap).ownBlock = some g → v.ownBlock = some g ∨ w.heap.size ≤ g := by
 obtain ⟨i0, hi, hz0, hz1, hz2⟩ := info_parts Tryz.infoAn
 obtain ⟨v', w', hr, h2, h3, _, h5⟩ := run_append_own_at (P := Tryz.prog) (w := w) base 58 58 45 i0 (.agg #[.int .u32 0, .int .u32 0, .int .u8 0, .int .u32 0, .int .u32 0, .slice none 0 0, .slice none 0 0]) 7 72 Tryz.underlying58 hi hz0 hz1 hz2 rfl (by decide) v l.length (acells l) h ⟨x, 0, none⟩ 1 1 a.cs rfl (fun j u hu => by
  rw [addr_add, Nat.zero_add]
  simp only [World.cell?, hx]
  simpa using hu) h1 (by simp only [maxLen]; omega) (by omega) hb
 obtain ⟨ao, cap, rfl⟩ := own_formX h2
 refine ⟨ao, cap, w', hr, by rw [acells_app, List.length_append, List.length_singleton]; exact h2, (Fr.refl _ _).grown h3 (fun g hg => .inl hg), fun g hg => ?_⟩
 rcases h5 with e | e
 ·rw [e] at hg; exact .inl hg
 ·rw [e] at hg; cases hg; exact .inr (Nat.le_refl _)
structure AnOk (w : World) (base : Nat) (T : Nat → Prop) (r : RQ) (a : AN) (x : RA) : Prop where
 e : a.cl = r.cl ∧ a.nu = r.nu ∧ a.co = x.co ∧ a.rc = x.rc ∧ a.ve = x.ve
 f : OwF w base a.fv x.F
 h : OwS w base a.hv x.H
 tf : ∀ g, a.fv.ownBlock = some g → ¬ T g
 th : ∀ g, a.hv.ownBlock = some g → ¬ T g
theorem AnOk.frS {w w' : World} {base : Nat} {T T' S : Nat → Prop} {r : RQ} {a : AN} {x : RA} (h : AnOk w base T r a x) (hf : Fr S w w') (hS : ∀ g, (a.fv.ownBlock = some g ∨ a.hv.ownBlock = some g) → ¬ S g) (hT : ∀ g, g < w.heap.size → T' g → T g) : AnOk w' base T' r a x :=
 ⟨h.e, ownsRow_of_block h.f (fun g hg => hf.block g (h.f.lt g hg).2 (hS g (.inl hg))), ownsRow_of_block h.h (fun g hg => hf.block g (h.h.lt g hg).2 (hS g (.inr hg))), fun g hg hT' => h.tf g hg (hT g (h.f.lt g hg).2 hT'), fun g hg hT' => h.th g hg (hT g (h.h.lt g hg).2 hT')⟩
theorem pcells_app (l : List P3) (p : P3) : pcells (l ++ [p]) = pcells l ++ [.int .u32 (p.a : Nat), .int .u32 (p.r : Nat), .int .u32 (p.w : Nat)] := by simp [pcells, P3.cells]
theorem app_staff (w : World) (base x : Nat) (v : Value) (l : List P3) (p : P3) (h : w.ownsRow base 33 3 v l.length (pcells l)) (hb : base ≤ w.heap.size) (hn : l.length ≤ 1000000000) (hx : w.heap[x]? = some (.cells #[.int .u32 (p.a : Nat), .int .u32 (p.r : Nat), .int .u32 (p.w : Nat)] 33)) :
  ∃ ao cap w', (Builtin.append_ #[22, 22] 22 #[v, .slice (some ⟨x, 0, none⟩) 1 1]).run Tryz.prog w = .ok (.slice ao (l.length + 1) cap) w' ∧ w'.ownsRow base 33 3 (.slice ao (l.length + 1) cap) (l.length + 1) (pcells (l ++ [p])) ∧ Fr (fun g => v.ownBlock = some g) w w' := by
 obtain ⟨i0, hi, hz0, hz1, hz2⟩ := info_parts Tryz.infoStf
 obtain ⟨v', w', hr, h2, h3, _, h5⟩ := run_append_own_at (P := Tryz.prog) (w := w) base 22 22 33 i0 (.agg #[.int .u32 0, .int .u32 0, .int .u32 0]) 3 12 Tryz.underlying22 hi hz0 hz1 hz2 rfl (by decide) v l.length (pcells l) h ⟨x, 0, none⟩ 1 1 [.int .u32 (p.a : Nat), .int .u32 (p.r : Nat), .int .u32 (p.w : Nat)] rfl (fun j u hu => by
  rw [addr_add, Nat.zero_add]
  simp only [World.cell?, hx]
  simpa using hu) (fun u hu => by simp at hu; rcases hu with rfl | rfl | rfl <;> rfl) (by simp only [maxLen]; omega) (by omega) hb
 obtain ⟨ao, cap, rfl⟩ := own_formX h2
 exact ⟨ao, cap, w', hr, by rw [pcells_app]; exact h2, (Fr.refl _ _).grown h3 (fun g hg => .inl hg)⟩
set_option maxHeartbeats 2000000 in
set_option maxRecDepth 100000 in
theorem staff_any (x : Value) (l : List P3) (w : World) (hx : Stf w x l) (hl : l.length ≤ 1000000) :
  Calls Tryz.prog 7 #[x] w fun e w' => ∃ v, e = .returned v ∧ w'.ownsRow w.heap.size 33 3 v l.length (pcells l) ∧ Fr (fun _ => False) w w' := by
 have HX := hide hx
 obtain ⟨xo, xc, rfl⟩ := hx.form
 clear hx
 go_enter Tryz.func7, Tryz.ntmps7
 go_wp2_with fail
 go_loopw [3, 4] (fun av iv wr => ∃ (j : Nat) (ao : Option Addr) (cap : Nat), j ≤ l.length ∧ iv = .int .i64 (j : Nat) ∧ av = .slice ao j cap ∧ wr.ownsRow w.heap.size 33 3 (.slice ao j cap) j (pcells (l.take j)) ∧ Fr (fun _ => False) w wr) (fun _ iv _ => l.length - (intOf iv).toNat)
 case atStart => exact ⟨0, none, 0, Nat.zero_le _, rfl, rfl, World.ownsRow_nil _ _ _ _, Fr.refl _ _⟩
 case round =>
  obtain ⟨j, ao, cap, hj, rfl, rfl, hown, hfr⟩ := hrel
  have hlen : (l.take j).length = j := by simp; omega
  by_cases hlt : j < l.length
  ·obtain ⟨g, o, rfl, c0, c1, c2⟩ := ((unhide HX).fr hfr).at_ j hlt
   obtain ⟨P, hPe⟩ : ∃ P, l[j] = P := ⟨_, rfl⟩
   rw [hPe] at c0 c1 c2
   have htk : l.take (j + 1) = l.take j ++ [P] := by rw [List.take_add_one, List.getElem?_eq_getElem hlt, hPe]; rfl
   obtain ⟨pa, pr, pw⟩ := P
   obtain ⟨ao2, cap2, w2, hr, hown2, hf2⟩ := app_staff (wr.alloc (.cells #[.int .u32 (pa : Nat), .int .u32 (pr : Nat), .int .u32 (pw : Nat)] 33)) w.heap.size wr.heap.size (.slice ao j cap) (l.take j) ⟨pa, pr, pw⟩ (by rw [hlen]; exact hown.alloc _) (by have := hfr.size; simp; omega) (by omega) Array.getElem?_push_size
   rw [hlen] at hr hown2
   rw [← htk] at hown2
   have hf3 : Fr (fun _ => False) w w2 := (hfr.trans (box1 wr _) (fun _ _ h => h)).absorb hf2 (fun k hk => (hown.lt k hk).1)
   have HR := hide hr
   have HO := hide (And.intro hown2 hf3)
   simp only at c0 c1 c2
   have hkl : (j : Int) < (l.length : Int) := by omega
   clear hown hfr hPe htk hr hown2 hf2 hf3 hlen
   go_wp2_with (at_builtin; refine wpList_app rfl (.tmp 11) (.tmp 16) 22 22 rfl _ _ _ rfl rfl (unhide HR) ?_)
   go_roundw
   case rel => exact ⟨j + 1, ao2, cap2, hlt, by go_num, rfl, (unhide HO).1, (unhide HO).2⟩
   case measure => simp [intOf]; omega
  ·obtain rfl : j = l.length := by omega
   have HO := hide (And.intro hown hfr)
   clear hown hfr
   go_wp2_with fail
   go_ret
   obtain ⟨h1, h2⟩ := unhide HO
   rw [List.take_length] at h1
   exact ⟨_, rfl, h1, h2⟩
end Go.Proofs.YtiknjghcjaaenaaGreatDoor
namespace Go.Proofs.YtiknjghcjaaenaaGreatDoor
open Go.RowKit
set_option maxRecDepth 100000 in
theorem gbits_any (x : Nat) (w : World) : Calls Tryz.prog 50 #[.float .f32 x] w fun e w' => e = .returned (.int .u32 (x : Nat)) ∧ w' = w := by
 have hb := Tryz.fbitsO x
 go_enter Tryz.func50, Tryz.ntmps50
 go_wp2_with fail
 go_ret
 exact ⟨rfl, rfl⟩
set_option maxHeartbeats 2000000 in
set_option maxRecDepth 100000 in
theorem sameF_any (x y : Value) (l : List F5) (w : World) (hx : Fds w x l) (hy : Fds w y l) (hl : l.length ≤ 140737488355328) :
  Calls Tryz.prog 31 #[x, y] w fun e w' => e = .returned (.bool true) ∧ ∃ q, w' = w.drewN q := by
 have HX := hide (And.intro hx hy)
 obtain ⟨xo, xc, rfl⟩ := hx.form
 obtain ⟨yo, yc, rfl⟩ := hy.form
 clear hx hy
 go_enter Tryz.func31, Tryz.ntmps31
 go_wp2_with fail
 go_loopw [5] (fun iv wr => ∃ j q : Nat, j ≤ l.length ∧ iv = .int .i64 (j : Nat) ∧ wr = w.drewN q) (fun iv _ => l.length - (intOf iv).toNat)
 case atStart => exact ⟨0, 0, Nat.zero_le _, rfl, rfl⟩
 case round =>
  obtain ⟨j, q, hj, rfl, hwq⟩ := hrel
  have HW := hide hwq
  have hfr : Fr (fun _ => False) w wr := by rw [hwq]; exact (Fr.refl _ _).drewN q
  clear hwq
  by_cases hlt : j < l.length
  ·obtain ⟨g, o, rfl, c0, c1, c2, c3, c4⟩ := ((unhide HX).1.fr hfr).at_ j hlt
   obtain ⟨g2, o2, rfl, d0, d1, d2, d3, d4⟩ := ((unhide HX).2.fr hfr).at_ j hlt
   obtain ⟨⟨fn, fk, ft, fv, fu⟩, hf⟩ : ∃ f, l[j] = f := ⟨_, rfl⟩
   rw [hf] at c0 c1 c2 c3 c4 d0 d1 d2 d3 d4
   simp only at c0 c1 c2 c3 c4 d0 d1 d2 d3 d4
   have hkl : (j : Int) < (l.length : Int) := by omega
   clear hf hfr
   go_wp2_with fail
   go_quiet ((go_at_call 50; exact Calls.quiet_of_same (gbits_any fv _)))
   go_wp2_with fail
   go_roundw
   case rel => exact ⟨j + 1, q + nq, hlt, by go_num, by rw [unhide HW, World.drewN_drewN]⟩
   case measure => simp [intOf]; omega
  ·obtain rfl : j = l.length := by omega
   clear hfr
   go_wp2_with fail
   go_ret
   exact ⟨rfl, q, unhide HW⟩
end Go.Proofs.YtiknjghcjaaenaaGreatDoor
namespace Go.Proofs.YtiknjghcjaaenaaGreatDoor
open Go.RowKit Go.Shelf
def Sms (w : World) (x : Value) (l : List SM) : Prop :=
 (∃ a c, x = .slice a 0 c ∧ l = []) ∨ ∃ g o c, x = .slice (some ⟨g, o, none⟩) l.length c ∧ ∀ j (h : j < l.length), w.cell? ⟨g, o + j * 4, none⟩ = some (.int .u32 (l[j].au : Nat)) ∧ w.cell? ⟨g, o + j * 4 + 1, none⟩ = some (.int .u32 (l[j].ev : Nat)) ∧ w.cell? ⟨g, o + j * 4 + 2, none⟩ = some (.int .u32 (l[j].nf : Nat)) ∧ w.cell? ⟨g, o + j * 4 + 3, none⟩ = some (.bool l[j].rd)
theorem Sms.form {w : World} {x : Value} {l : List SM} (h : Sms w x l) : ∃ xo xc, x = .slice xo l.length xc := by
 rcases h with ⟨a, c, rfl, rfl⟩ | ⟨g, o, c, rfl, _⟩ <;> exact ⟨_, _, rfl⟩
theorem Sms.fr {w w' : World} {x : Value} {l : List SM} (h : Sms w x l) (hf : Fr (fun _ => False) w w') : Sms w' x l := by
 rcases h with h | ⟨g, o, c, h1, h2⟩
 ·exact .inl h
 ·refine .inr ⟨g, o, c, h1, fun j hj => ?_⟩
  obtain ⟨c0, c1, c2, c3⟩ := h2 j hj
  have hg : g < w.heap.size := lt_of_cell c0
  exact ⟨(hf.cell (p := ⟨g, _, none⟩) hg (fun h => h)).trans c0, (hf.cell (p := ⟨g, _, none⟩) hg (fun h => h)).trans c1, (hf.cell (p := ⟨g, _, none⟩) hg (fun h => h)).trans c2, (hf.cell (p := ⟨g, _, none⟩) hg (fun h => h)).trans c3⟩
theorem Sms.at_ {w : World} {xo : Option Addr} {n c : Nat} {l : List SM} (h : Sms w (.slice xo n c) l) (j : Nat) (hj : j < l.length) : ∃ g o, xo = some ⟨g, o, none⟩ ∧ w.cell? ⟨g, o + j * 4, none⟩ = some (.int .u32 (l[j].au : Nat)) ∧ w.cell? ⟨g, o + j * 4 + 1, none⟩ = some (.int .u32 (l[j].ev : Nat)) ∧ w.cell? ⟨g, o + j * 4 + 2, none⟩ = some (.int .u32 (l[j].nf : Nat)) ∧ w.cell? ⟨g, o + j * 4 + 3, none⟩ = some (.bool l[j].rd) := by
 rcases h with ⟨_, _, _, rfl⟩ | ⟨g, o, c', e, h2⟩
 ·simp at hj
 ·simp only [Value.slice.injEq] at e
  obtain ⟨rfl, _, _⟩ := e
  exact ⟨g, o, rfl, h2 j hj⟩
theorem scells_at : ∀ (l : List SM) (k : Nat) (h : k < l.length), (scells l)[k * 4]? = some (.int .u32 (l[k].au : Nat)) ∧ (scells l)[k * 4 + 1]? = some (.int .u32 (l[k].ev : Nat)) ∧ (scells l)[k * 4 + 2]? = some (.int .u32 (l[k].nf : Nat)) ∧ (scells l)[k * 4 + 3]? = some (.bool l[k].rd)
 | [], k, h => by simp at h
 | f :: r, 0, _ => by simp [scells]
 | f :: r, k + 1, h => by
  have ih := scells_at r k (by simpa using h)
  have e : scells (f :: r) = [.int .u32 (f.au : Nat), .int .u32 (f.ev : Nat), .int .u32 (f.nf : Nat), .bool f.rd] ++ scells r := by simp [scells]
  have hl : ([Value.int .u32 (f.au : Nat), .int .u32 (f.ev : Nat), .int .u32 (f.nf : Nat), .bool f.rd]).length = 4 := rfl
  rw [e]
  refine ⟨?_, ?_, ?_, ?_⟩
  ·rw [List.getElem?_append_right (by rw [hl]; omega), hl, show (k + 1) * 4 - 4 = k * 4 by omega]; exact ih.1
  ·rw [List.getElem?_append_right (by rw [hl]; omega), hl, show (k + 1) * 4 + 1 - 4 = k * 4 + 1 by omega]; exact ih.2.1
  ·rw [List.getElem?_append_right (by rw [hl]; omega), hl, show (k + 1) * 4 + 2 - 4 = k * 4 + 2 by omega]; exact ih.2.2.1
  ·rw [List.getElem?_append_right (by rw [hl]; omega), hl, show (k + 1) * 4 + 3 - 4 = k * 4 + 3 by omega]; exact ih.2.2.2
theorem OwS.sms {w : World} {base : Nat} {v : Value} {l : List SM} (h : OwS w base v l) : Sms w v l := by
 have ho : w.ownsRow base 83 4 v l.length (scells l) := h
 rcases Nat.eq_zero_or_pos l.length with h0 | h0
 ·obtain rfl := List.length_eq_zero_iff.1 h0
  obtain ⟨ao, cap, rfl⟩ := own_formX ho
  exact .inl ⟨ao, cap, rfl, rfl⟩
 ·obtain ⟨g, cap, e, _, _⟩ := ho.form h0
  rw [e] at ho
  refine .inr ⟨g, 0, cap, e, fun j hj => ?_⟩
  obtain ⟨a0, a1, a2, a3⟩ := scells_at l j hj
  rw [Nat.zero_add]
  exact ⟨(ho.cellAt _ (by omega)).trans a0, (ho.cellAt _ (by omega)).trans a1, (ho.cellAt _ (by omega)).trans a2, (ho.cellAt _ (by omega)).trans a3⟩
theorem Tryz.held_id : Tryz.prog.stoodInHeld 38 = false := by kernel_rfl
theorem Tryz.fields_id : Tryz.prog.underlying 38 = some (.struct (Tryz.prog.fieldsOf 38)) := by kernel_rfl
theorem Tryz.held_sm : Tryz.prog.stoodInHeld 83 = false := by kernel_rfl
theorem Tryz.fields_sm : Tryz.prog.underlying 83 = some (.struct (Tryz.prog.fieldsOf 83)) := by kernel_rfl
theorem neq_id (a b : Nat) (w : World) : (binOp .neq 38 (.agg #[.int .u32 (a : Nat), .int .u32 (b : Nat)]) (.agg #[.int .u32 (a : Nat), .int .u32 (b : Nat)])).run Tryz.prog w = .ok (.bool false) w := by
 rw [run_neq_struct, show (10000 : Nat) = 9999 + 1 from rfl, run_equalIn_agg _ 9999 _ _ _ Tryz.fields_id Tryz.held_id]
 simp [Program.fieldsOf, Tryz.underlying38, Op.eqFields, go_sem]
theorem neq_sm (a b c : Nat) (d : Bool) (w : World) : (binOp .neq 83 (.agg #[.int .u32 (a : Nat), .int .u32 (b : Nat), .int .u32 (c : Nat), .bool d]) (.agg #[.int .u32 (a : Nat), .int .u32 (b : Nat), .int .u32 (c : Nat), .bool d])).run Tryz.prog w = .ok (.bool false) w := by
 rw [run_neq_struct, show (10000 : Nat) = 9999 + 1 from rfl, run_equalIn_agg _ 9999 _ _ _ Tryz.fields_sm Tryz.held_sm]
 simp [Program.fieldsOf, Tryz.underlying83, Op.eqFields, go_sem]
theorem Fr.ofDrew (w : World) (q : Nat) : Fr (fun _ => False) w (w.drewN q) := (Fr.refl _ _).drewN q
set_option maxHeartbeats 4000000 in
set_option maxRecDepth 100000 in
theorem sameA_any (cl nu co rc ve : Nat) (fv hv fv' hv' : Value) (F : List F5) (H : List SM) (w : World) (hf : Fds w fv F) (hf' : Fds w fv' F) (hh : Sms w hv H) (hh' : Sms w hv' H) (hF : F.length ≤ 140737488355328) (hH : H.length ≤ 140737488355328) :
  Calls Tryz.prog 14 #[.agg #[.int .u32 (cl : Nat), .int .u32 (nu : Nat), .int .u8 (co : Nat), .int .u32 (rc : Nat), .int .u32 (ve : Nat), fv, hv], .agg #[.int .u32 (cl : Nat), .int .u32 (nu : Nat), .int .u8 (co : Nat), .int .u32 (rc : Nat), .int .u32 (ve : Nat), fv', hv']] w fun e w' => e = .returned (.bool true) ∧ Fr (fun _ => False) w w' := by
 have HSF : Hid (∀ W, Fr (fun _ => False) w W → Calls Tryz.prog 31 #[fv, fv'] W fun e w' => e = .returned (.bool true) ∧ ∃ q, w' = W.drewN q) := fun W hW => sameF_any fv fv' F W (hf.fr hW) (hf'.fr hW) hF
 have HH := hide (And.intro hh hh')
 obtain ⟨fo, fc, rfl⟩ := hf.form
 obtain ⟨fo', fc', rfl⟩ := hf'.form
 obtain ⟨ho, hc, rfl⟩ := hh.form
 obtain ⟨ho', hc', rfl⟩ := hh'.form
 have hni := neq_id cl nu
 obtain ⟨W1, hW1⟩ : ∃ W1, W1 = (w.alloc (.cells #[.int .u32 (cl : Nat), .int .u32 (nu : Nat), .int .u8 (co : Nat), .int .u32 (rc : Nat), .int .u32 (ve : Nat), .slice fo F.length fc, .slice ho H.length hc] 45)).alloc (.cells #[.int .u32 (cl : Nat), .int .u32 (nu : Nat), .int .u8 (co : Nat), .int .u32 (rc : Nat), .int .u32 (ve : Nat), .slice fo' F.length fc', .slice ho' H.length hc'] 45) := ⟨_, rfl⟩
 have F1 : Hid (Fr (fun _ => False) w W1) := by rw [hW1]; exact (box1 w _).trans (box1 _ _) (fun _ _ h => h)
 have e1 : w.heap.size + 1 = (w.alloc (.cells #[.int .u32 (cl : Nat), .int .u32 (nu : Nat), .int .u8 (co : Nat), .int .u32 (rc : Nat), .int .u32 (ve : Nat), .slice fo F.length fc, .slice ho H.length hc] 45)).heap.size := by simp
 have a6 : W1.cell? ⟨w.heap.size, 6, none⟩ = some (.slice ho H.length hc) := by
  rw [hW1]
  refine ((box1 _ _).cell (p := ⟨w.heap.size, 6, none⟩) (by simp) (fun h => h)).trans ?_
  rw [World.cell?_alloc_at _ _ _ _ rfl]; rfl
 have b6 : W1.cell? ⟨w.heap.size + 1, 6, none⟩ = some (.slice ho' H.length hc') := by
  rw [hW1, e1, World.cell?_alloc_at _ _ _ _ rfl]; rfl
 clear hf hf' hh hh' e1
 go_enter Tryz.func14, Tryz.ntmps14
 go_wp2_with fail
 rw [← hW1]
 clear hW1
 refine ((unhide HSF) _ (unhide F1)).mono ?_
 rintro e w2 ⟨rfl, q0, hq0⟩
 have HW2 := hide hq0
 have hf2 : Fr (fun _ => False) W1 w2 := by rw [hq0]; exact Fr.ofDrew _ _
 have x6 := (hf2.cell (p := ⟨w.heap.size, 6, none⟩) (lt_of_cell a6) (fun h => h)).trans a6
 have y6 := (hf2.cell (p := ⟨w.heap.size + 1, 6, none⟩) (lt_of_cell b6) (fun h => h)).trans b6
 clear HSF hq0 hf2
 go_wp2_with fail
 clear x6 y6
 go_loopw [5] (fun iv wr => ∃ j q : Nat, j ≤ H.length ∧ iv = .int .i64 (j : Nat) ∧ wr = W1.drewN q) (fun iv _ => H.length - (intOf iv).toNat)
 case atStart => exact ⟨0, q0, Nat.zero_le _, rfl, unhide HW2⟩
 case round =>
  obtain ⟨j, q, hj, rfl, hwq⟩ := hrel
  have HW := hide hwq
  have hfr : Fr (fun _ => False) W1 wr := by rw [hwq]; exact Fr.ofDrew _ _
  have x6 := (hfr.cell (p := ⟨w.heap.size, 6, none⟩) (lt_of_cell a6) (fun h => h)).trans a6
  have y6 := (hfr.cell (p := ⟨w.heap.size + 1, 6, none⟩) (lt_of_cell b6) (fun h => h)).trans b6
  clear hwq
  by_cases hlt : j < H.length
  ·obtain ⟨g, o, rfl, c0, c1, c2, c3⟩ := (((unhide HH).1.fr (unhide F1)).fr hfr).at_ j hlt
   obtain ⟨g2, o2, rfl, d0, d1, d2, d3⟩ := (((unhide HH).2.fr (unhide F1)).fr hfr).at_ j hlt
   obtain ⟨⟨sa, se, sn, sr⟩, hs⟩ : ∃ f, H[j] = f := ⟨_, rfl⟩
   rw [hs] at c0 c1 c2 c3 d0 d1 d2 d3
   simp only at c0 c1 c2 c3 d0 d1 d2 d3
   have hns := neq_sm sa se sn sr
   have hkl : (j : Int) < (H.length : Int) := by omega
   clear hs hfr a6 b6
   go_wp2_with fail
   go_quiet (fail)
   go_wp2_with fail
   go_roundw
   case rel => exact ⟨j + 1, q + nq, hlt, by go_num, by rw [unhide HW, World.drewN_drewN]⟩
   case measure => simp [intOf]; omega
  ·obtain rfl : j = H.length := by omega
   clear hfr a6 b6
   go_wp2_with fail
   go_ret
   refine ⟨rfl, ?_⟩
   rw [unhide HW]
   exact (unhide F1).drewN q
theorem Us.frS {w w' : World} {x : Value} {l : List Nat} {S : Nat → Prop} (h : Us w x l) (hf : Fr S w w') (hS : ∀ g o n c, x = .slice (some ⟨g, o, none⟩) n c → 0 < n → ¬ S g) : Us w' x l := by
 rcases h with h | ⟨g, o, c, h1, h2⟩
 ·exact .inl h
 ·exact .inr ⟨g, o, c, h1, fun j hj => (hf.cell (p := ⟨g, _, none⟩) (lt_of_cell (h2 j hj)) (hS g o _ c h1 (by omega))).trans (h2 j hj)⟩
structure RF (w wr : World) (bs bz : Nat) (Ts Tz : Nat → Prop) (ss sz : RM) (sv rv pv : Value) (l : List (RQ × List F5)) (pl : List Nat) : Prop where
 rs : RsB wr bs Ts ss
 rz : RsB wr bz Tz sz
 ts : ∀ k, Ts k → w.heap.size + 1 ≤ k ∧ k < wr.heap.size
 tz : ∀ k, Tz k → w.heap.size + 1 ≤ k ∧ k < wr.heap.size
 dj : ∀ k, Ts k → ¬ Tz k
 b : wr.heap[w.heap.size]? = some (.cells #[sv, rv, pv] 26)
 q : Rqs wr rv l
 lo : ∀ k, Rqb rv l k → k < w.heap.size
 p : Us wr pv pl
 po : ∀ g o n c, pv = .slice (some ⟨g, o, none⟩) n c → 0 < n → g < w.heap.size
 u : GU wr
 uv : 1 < w.heap.size
 f : Fr (fun _ => False) w wr
theorem RF.fr {w wr W : World} {bs bz : Nat} {Ts Tz : Nat → Prop} {ss sz : RM} {sv rv pv : Value} {l : List (RQ × List F5)} {pl : List Nat} (h : RF w wr bs bz Ts Tz ss sz sv rv pv l pl) (hf : Fr (fun _ => False) wr W) : RF w W bs bz Ts Tz ss sz sv rv pv l pl :=
 ⟨h.rs.fr hf, h.rz.fr hf, fun k hk => ⟨(h.ts k hk).1, Nat.lt_of_lt_of_le (h.ts k hk).2 hf.size⟩, fun k hk => ⟨(h.tz k hk).1, Nat.lt_of_lt_of_le (h.tz k hk).2 hf.size⟩, h.dj, (hf.block _ (lt_of_block h.b) (fun h => h)).trans h.b, h.q.fr hf, h.lo, h.p.fr hf, h.po, h.u.fr hf, h.uv, h.f.trans hf (fun _ _ h => h)⟩
theorem RF.goS {w W W' : World} {bs bz : Nat} {Ts Tz T' : Nat → Prop} {ss sz s' : RM} {sv rv pv : Value} {l : List (RQ × List F5)} {pl : List Nat} (h : RF w W bs bz Ts Tz ss sz sv rv pv l pl) (hf : Fr Ts W W') (hr : RsB W' bs T' s') (k2 : ∀ k, T' k → Ts k ∨ W.heap.size ≤ k) (k3 : ∀ k, T' k → k < W'.heap.size) : RF w W' bs bz T' Tz s' sz sv rv pv l pl := by
 have hb := lt_of_block h.b
 have hs := hf.size
 have hlow : ∀ k, k ≤ w.heap.size → ¬ Ts k := fun k hk hT => by have := (h.ts k hT).1; omega
 refine ⟨hr, h.rz.frS hf (fun k hk => h.dj k hk), fun k hk => ⟨?_, k3 k hk⟩, fun k hk => ⟨(h.tz k hk).1, Nat.lt_of_lt_of_le (h.tz k hk).2 hs⟩, fun k hk hz => ?_, (hf.block _ hb (hlow _ (Nat.le_refl _))).trans h.b, h.q.frS hf (fun k hk => hlow k (by have := h.lo k hk; omega)), h.lo, h.p.frS hf (fun g o n c e h0 => hlow g (by have := h.po g o n c e h0; omega)), h.po, h.u.frT hf (hlow _ (by have := h.uv; omega)), h.uv, h.f.absorb hf (fun k hk => by have := (h.ts k hk).1; omega)⟩
 ·rcases k2 k hk with h1 | h1
  ·exact (h.ts k h1).1
  ·omega
 ·rcases k2 k hk with h1 | h1
  ·exact h.dj k h1 hz
  ·have := (h.tz k hz).2; omega
theorem RF.swap {w wr : World} {bs bz : Nat} {Ts Tz : Nat → Prop} {ss sz : RM} {sv rv pv : Value} {l : List (RQ × List F5)} {pl : List Nat} (h : RF w wr bs bz Ts Tz ss sz sv rv pv l pl) : RF w wr bz bs Tz Ts sz ss sv rv pv l pl :=
 ⟨h.rz, h.rs, h.tz, h.ts, fun k hk hs => h.dj k hs hk, h.b, h.q, h.lo, h.p, h.po, h.u, h.uv, h.f⟩
theorem OwS.frS {w w' : World} {base : Nat} {v : Value} {l : List SM} {S : Nat → Prop} (h : OwS w base v l) (hf : Fr S w w') (hS : ∀ g, v.ownBlock = some g → ¬ S g) : OwS w' base v l :=
 ownsRow_of_block h (fun g hg => hf.block g (h.lt g hg).2 (hS g hg))
theorem RF.frS {w W W' : World} {bs bz : Nat} {Ts Tz S : Nat → Prop} {ss sz : RM} {sv rv pv : Value} {l : List (RQ × List F5)} {pl : List Nat} (h : RF w W bs bz Ts Tz ss sz sv rv pv l pl) (hf : Fr S W W') (h1 : ∀ k, S k → w.heap.size < k ∧ ¬ Ts k ∧ ¬ Tz k) : RF w W' bs bz Ts Tz ss sz sv rv pv l pl := by
 have hs := hf.size
 have hlow : ∀ k, k ≤ w.heap.size → ¬ S k := fun k hk hS => by have := (h1 k hS).1; omega
 exact ⟨h.rs.frS hf (fun k hk => (h1 k hk).2.1), h.rz.frS hf (fun k hk => (h1 k hk).2.2), fun k hk => ⟨(h.ts k hk).1, Nat.lt_of_lt_of_le (h.ts k hk).2 hs⟩, fun k hk => ⟨(h.tz k hk).1, Nat.lt_of_lt_of_le (h.tz k hk).2 hs⟩, h.dj, (hf.block _ (lt_of_block h.b) (hlow _ (Nat.le_refl _))).trans h.b, h.q.frS hf (fun k hk => hlow k (by have := h.lo k hk; omega)), h.lo, h.p.frS hf (fun g o n c e h0 => hlow g (by have := h.po g o n c e h0; omega)), h.po, h.u.frT hf (hlow _ (by have := h.uv; omega)), h.uv, h.f.absorb hf (fun k hk => by have := (h1 k hk).1; omega)⟩
theorem RF.apply {w W : World} {bs bz : Nat} {Ts Tz : Nat → Prop} {ss sz : RM} {sv rv pv : Value} {l : List (RQ × List F5)} {pl : List Nat} (h : RF w W bs bz Ts Tz ss sz sv rv pv l pl) {p : RQ × List F5} (hp : p ∈ l) (hok : ss.Ok) (hg : PGood p) (n : Nat) (X : RM × RA) (hX : ss.step p.1 p.2 n = X) :
  Calls Tryz.prog 10 #[.pointer (some ⟨bs, 0, none⟩), p.1.v, .int .u32 (n : Nat)] W fun e w' => ∃ fo fn fc ho hn hc, e = .returned (.agg #[.int .u32 (p.1.cl : Nat), .int .u32 (p.1.nu : Nat), .int .u8 (X.2.co : Nat), .int .u32 (X.2.rc : Nat), .int .u32 (X.2.ve : Nat), .slice fo fn fc, .slice ho hn hc]) ∧ ∃ T', RF w w' bs bz T' Tz X.1 sz sv rv pv l pl ∧ Fr Ts W w' ∧ (∀ k, T' k → Ts k ∨ W.heap.size ≤ k) ∧ OwF w' W.heap.size (.slice fo fn fc) X.2.F ∧ OwS w' W.heap.size (.slice ho hn hc) X.2.H := by
 refine (apply_C bs Ts ss p.1 p.2 n W h.rs (fun k hk => (h.ts k hk).2) hok (h.q.d p hp) hg.2.1 hg.2.2 h.u X hX).mono ?_
 rintro e w' ⟨fo, fn, fc, ho, hn, hc, he, o1, o2, hf, T', k1, k2, k3, k4, k5⟩
 exact ⟨fo, fn, fc, ho, hn, hc, he, T', h.goS hf k1 k2 k3, hf, k2, o1, o2⟩
structure RG (w W : World) (bs bz : Nat) (Ts Tz : Nat → Prop) (ss sz : RM) (sv rv pv : Value) (l : List (RQ × List F5)) (pl : List Nat) (ba : Nat) (blk : Array Value) (base : Nat) (fv hv : Value) (a : RA) : Prop where
 rf : RF w W bs bz Ts Tz ss sz sv rv pv l pl
 bk : W.heap[ba]? = some (.cells blk 45)
 hi : w.heap.size < ba
 ns : ¬ Ts ba
 nz : ¬ Tz ba
 f : OwF W base fv a.F
 h : OwS W base hv a.H
 ap : ∀ k, Tz k → k < base
 nf : fv.ownBlock ≠ some ba
 nh : hv.ownBlock ≠ some ba
theorem RG.fr {w W W' : World} {bs bz : Nat} {Ts Tz : Nat → Prop} {ss sz : RM} {sv rv pv : Value} {l : List (RQ × List F5)} {pl : List Nat} {ba base : Nat} {blk : Array Value} {fv hv : Value} {a : RA} (h : RG w W bs bz Ts Tz ss sz sv rv pv l pl ba blk base fv hv a) (hf : Fr (fun _ => False) W W') : RG w W' bs bz Ts Tz ss sz sv rv pv l pl ba blk base fv hv a :=
 ⟨h.rf.fr hf, (hf.block _ (lt_of_block h.bk) (fun h => h)).trans h.bk, h.hi, h.ns, h.nz, h.f.fr hf (fun _ _ h => h), h.h.frS hf (fun _ _ h => h), h.ap, h.nf, h.nh⟩
theorem RG.put {w W : World} {bs bz : Nat} {Ts Tz : Nat → Prop} {ss sz : RM} {sv rv pv : Value} {l : List (RQ × List F5)} {pl : List Nat} {ba base : Nat} {a0 a1 a2 a3 a4 a5 a6 : Value} {fv hv : Value} {a : RA} (h : RG w W bs bz Ts Tz ss sz sv rv pv l pl ba #[a0, a1, a2, a3, a4, a5, a6] base fv hv a) (c0 c1 c2 c3 c4 c5 c6 : Value) (h1 : ∀ v ∈ [c0, c1, c2, c3, c4, c5, c6], v.oneCell' = true) :
  ∃ W8, (Instr.storeAt 45 (.pointer (some ⟨ba, 0, none⟩)) (.agg #[c0, c1, c2, c3, c4, c5, c6])).run Tryz.prog W = .ok () W8 ∧ RG w W8 bs bz Ts Tz ss sz sv rv pv l pl ba #[c0, c1, c2, c3, c4, c5, c6] base fv hv a := by
 obtain ⟨W8, h2, h3, h4⟩ := ans_put h.bk c0 c1 c2 c3 c4 c5 c6 h1
 exact ⟨W8, h2, h.rf.frS h4 (fun k hk => by rw [hk]; exact ⟨h.hi, h.ns, h.nz⟩), h3, h.hi, h.ns, h.nz, h.f.fr h4 (fun g hg e => h.nf (by rw [hg, e])), h.h.frS h4 (fun g hg e => h.nh (by rw [hg, e])), h.ap, h.nf, h.nh⟩
theorem RF.cells {w W : World} {bs bz : Nat} {Ts Tz : Nat → Prop} {ss sz : RM} {sv pv : Value} {g o n c : Nat} {l : List (RQ × List F5)} {pl : List Nat} (h : RF w W bs bz Ts Tz ss sz sv (.slice (some ⟨g, o, none⟩) n c) pv l pl) {j : Nat} {p : RQ × List F5} (hj : l[j]? = some p) : (W.cell? ⟨w.heap.size, 0, none⟩ = some sv ∧ W.cell? ⟨w.heap.size, 1, none⟩ = some (.slice (some ⟨g, o, none⟩) n c) ∧ W.cell? ⟨w.heap.size, 2, none⟩ = some pv) ∧ R10 W g (o + j * 10) p.1 := by
 refine ⟨⟨by simp [World.cell?, h.b], by simp [World.cell?, h.b], by simp [World.cell?, h.b]⟩, ?_⟩
 obtain ⟨hl, hp⟩ := List.getElem?_eq_some_iff.1 hj
 obtain ⟨g', o', e, r⟩ := h.q.at_ j hl
 cases e
 rw [← hp]
 exact r
theorem RG.other {w W w' : World} {bs bz : Nat} {Ts Tz T' : Nat → Prop} {ss sz s' : RM} {sv rv pv : Value} {l : List (RQ × List F5)} {pl : List Nat} {ba base : Nat} {blk : Array Value} {fv hv : Value} {a : RA} (h : RG w W bs bz Ts Tz ss sz sv rv pv l pl ba blk base fv hv a) (h' : RF w w' bz bs T' Ts s' ss sv rv pv l pl) (hf : Fr Tz W w') : RF w w' bs bz Ts T' ss s' sv rv pv l pl ∧ w'.heap[ba]? = some (.cells blk 45) ∧ OwF w' base fv a.F ∧ OwS w' base hv a.H :=
 ⟨h'.swap, (hf.block ba (lt_of_block h.bk) h.nz).trans h.bk, h.f.fr hf (fun g hg ht => by have := (h.f.lt g hg).1; have := h.ap g ht; omega), h.h.frS hf (fun g hg ht => by have := (h.h.lt g hg).1; have := h.ap g ht; omega)⟩
theorem step_short {s : RM} (h : s.Ok) (r : RQ) (F : List F5) (pl : Nat) : (s.step r F pl).2.F.length ≤ 32 ∧ (s.step r F pl).2.H.length ≤ 64 := by
 have hn : ∀ c : Nat, (RA.no c).F.length ≤ 32 ∧ (RA.no c).H.length ≤ 64 := fun c => ⟨by simp [RA.no], by simp [RA.no]⟩
 unfold RM.step
 split
 ·exact hn _
 split
 ·exact hn _
 split
 ·unfold RM.create
  repeat' split
  all_goals first | exact hn _ | exact ⟨by simp, by simp⟩
 split
 ·exact hn _
 cases hc : s.C[r.rc - 1]? with
 | none => exact hn _
 | some c =>
  have hco := h.c c (List.mem_of_getElem? hc)
  simp only
  unfold RM.op
  split
  ·unfold RM.amend
   repeat' split
   all_goals first | exact hn _ | exact ⟨by simp, by simp⟩
  split
  ·unfold RM.read
   split
   ·exact hn _
   split
   ·exact hn _
   cases hv : c.V[r.vn c - 1]? with
   | none => exact hn _
   | some v =>
    simp only
    split
    ·exact hn _
    ·exact ⟨(hco.F v (List.mem_of_getElem? hv)).1, by simp⟩
  split
  ·unfold RM.redact
   split
   ·exact hn _
   split
   ·exact hn _
   cases hv : c.V[r.ve - 1]? with
   | none => exact hn _
   | some v =>
    simp only
    split
    ·exact hn _
    ·exact ⟨by simp, by simp⟩
  split
  ·unfold RM.history
   split
   ·exact hn _
   ·exact ⟨by simp, by simpa using hco.V⟩
  split
  ·unfold RM.seal
   split
   ·exact hn _
   ·exact ⟨by simp, by simp⟩
  ·unfold RM.break
   split
   ·exact hn _
   ·exact ⟨by simp, by simp⟩
theorem OwF.len {w : World} {base n c : Nat} {a : Option Addr} {l : List F5} (h : OwF w base (.slice a n c) l) : n = l.length := by
 obtain ⟨a', c', e⟩ := own_formX h
 cases e
 rfl
theorem OwS.len {w : World} {base n c : Nat} {a : Option Addr} {l : List SM} (h : OwS w base (.slice a n c) l) : n = l.length := by
 obtain ⟨a', c', e⟩ := own_formX h
 cases e
 rfl
def ada : F5 := fT ⟨#[65, 100, 97]⟩
def S1 : RM := ⟨kn, [⟨7, 6, false, [], [⟨1, 0, [ada], false⟩]⟩]⟩
def S2 : RM := ⟨kn, [⟨7, 6, false, [], [⟨1, 0, [ada], false⟩, ⟨2, 1, [ada, fQ 1108606976], false⟩]⟩]⟩
theorem st0 (v : Value) : RM.step ⟨kn, []⟩ ⟨0, 0, 1, 1, 0, 0, 7, 6, v, ⟨#[]⟩⟩ [ada] 0 = (S1, ⟨0, 1, 1, [], []⟩) := by kernel_rfl
theorem st1 (v : Value) : S1.step ⟨0, 0, 2, 2, 1, 1, 0, 0, v, ⟨#[]⟩⟩ [fQ 1108606976] 1 = (S2, ⟨0, 1, 2, [], []⟩) := by kernel_rfl
theorem st2 (v : Value) : S2.step ⟨0, 0, 1, 2, 1, 2, 0, 0, v, ⟨#[]⟩⟩ [fQ 1108869120] 2 = (S2, ⟨5, 0, 0, [], []⟩) := by kernel_rfl
theorem ok0 : RM.Ok ⟨kn, []⟩ := ⟨by decide, by decide, fun c hc => by cases hc⟩
theorem okF {f : F5} (h : f.v < 4294967296 ∧ f.u < 256) : ∀ x ∈ [f], x.v < 4294967296 ∧ x.u < 256 := fun x hx => by rw [List.mem_singleton] at hx; subst hx; exact h
theorem ok1 : S1.Ok := by
 have h := ok0.step ⟨0, 0, 1, 1, 0, 0, 7, 6, .slice none 0 0, ⟨#[]⟩⟩ [ada] 0 (okF (by decide)) (by decide)
 rw [st0] at h
 exact h
theorem ok2 : S2.Ok := by
 have h := ok1.step ⟨0, 0, 2, 2, 1, 1, 0, 0, .slice none 0 0, ⟨#[]⟩⟩ [fQ 1108606976] 1 (okF (by decide)) (by decide)
 rw [st1] at h
 exact h
structure AW (w W : World) (b g z0 z1 z2 z3 z4 z5 N0 N1 : Nat) (T : Nat → Prop) (s : RM) : Prop where
 r : RsB W b T s
 q : Rqs W (.slice (some ⟨g, 0, none⟩) 20 20) (stL z0 z1 z2 z3 z4 z5)
 u : GU W
 f : Fr (fun _ => False) w W
 t : ∀ k, T k → w.heap.size ≤ k ∧ k < W.heap.size ∧ (k < N0 ∨ N1 ≤ k)
 l : ∀ k, Rqb (.slice (some ⟨g, 0, none⟩) 20 20) (stL z0 z1 z2 z3 z4 z5) k → N0 ≤ k ∧ k < N1
 n : N1 ≤ W.heap.size
 v : 1 < w.heap.size
theorem AW.fr {w W W' : World} {b g z0 z1 z2 z3 z4 z5 N0 N1 : Nat} {T : Nat → Prop} {s : RM} (h : AW w W b g z0 z1 z2 z3 z4 z5 N0 N1 T s) (hf : Fr (fun _ => False) W W') : AW w W' b g z0 z1 z2 z3 z4 z5 N0 N1 T s :=
 ⟨h.r.fr hf, h.q.fr hf, h.u.fr hf, h.f.trans hf (fun _ _ h => h), fun k hk => ⟨(h.t k hk).1, Nat.lt_of_lt_of_le (h.t k hk).2.1 hf.size, (h.t k hk).2.2⟩, h.l, Nat.le_trans h.n hf.size, h.v⟩
theorem AW.go {w W W' : World} {b g z0 z1 z2 z3 z4 z5 N0 N1 : Nat} {T : Nat → Prop} {s s' : RM} (h : AW w W b g z0 z1 z2 z3 z4 z5 N0 N1 T s) (hr : RsB W' b (fun k => T k ∨ (W.heap.size ≤ k ∧ k < W'.heap.size)) s') (hf : Fr T W W') : AW w W' b g z0 z1 z2 z3 z4 z5 N0 N1 (fun k => T k ∨ (W.heap.size ≤ k ∧ k < W'.heap.size)) s' :=
 ⟨hr, h.q.frS hf (fun k hk hT => by have := h.l k hk; have := (h.t k hT).2.2; omega), h.u.frT hf (fun hT => by have := (h.t _ hT).1; have := h.v; omega), h.f.absorb hf (fun k hk => (h.t k hk).1), fun k hk => by
  have hn := h.n
  have hs := h.f.size
  have hs2 := hf.size
  rcases hk with hk | hk
  ·have := h.t k hk; omega
  ·omega, h.l, Nat.le_trans h.n hf.size, h.v⟩
theorem AW.at0 {w W : World} {b g z0 z1 z2 z3 z4 z5 N0 N1 : Nat} {T : Nat → Prop} (h : AW w W b g z0 z1 z2 z3 z4 z5 N0 N1 T ⟨kn, []⟩) :
  (W.cell? ⟨g, 0, none⟩ = some (.int .u32 0) ∧ W.cell? ⟨g, 1, none⟩ = some (.int .u32 0) ∧ W.cell? ⟨g, 2, none⟩ = some (.int .u32 1) ∧ W.cell? ⟨g, 3, none⟩ = some (.int .u8 1) ∧ W.cell? ⟨g, 4, none⟩ = some (.int .u32 0) ∧ W.cell? ⟨g, 5, none⟩ = some (.int .u32 0) ∧ W.cell? ⟨g, 6, none⟩ = some (.int .u32 7) ∧ W.cell? ⟨g, 7, none⟩ = some (.int .u32 6) ∧ W.cell? ⟨g, 8, none⟩ = some (.slice (some ⟨z0, 0, none⟩) 1 1) ∧ W.cell? ⟨g, 9, none⟩ = some (.string ⟨#[]⟩)) ∧ Calls Tryz.prog 10 #[.pointer (some ⟨b, 0, none⟩), .agg #[.int .u32 0, .int .u32 0, .int .u32 1, .int .u8 1, .int .u32 0, .int .u32 0, .int .u32 7, .int .u32 6, .slice (some ⟨z0, 0, none⟩) 1 1, .string ⟨#[]⟩], .int .u32 0] W fun e w' => ∃ fo fn fc ho hn hc, e = .returned (.agg #[.int .u32 0, .int .u32 0, .int .u8 0, .int .u32 1, .int .u32 1, .slice fo fn fc, .slice ho hn hc]) ∧ Fr T W w' ∧ AW w w' b g z0 z1 z2 z3 z4 z5 N0 N1 (fun k => T k ∨ (W.heap.size ≤ k ∧ k < w'.heap.size)) S1 := by
 refine ⟨?_, ?_⟩
 ·obtain ⟨g', o', e, c⟩ := h.q.at_ 0 (by show _ < 20; omega)
  cases e
  exact c
 ·refine (apply_B b T ⟨kn, []⟩ ⟨0, 0, 1, 1, 0, 0, 7, 6, .slice (some ⟨z0, 0, none⟩) 1 1, ⟨#[]⟩⟩ [ada] 0 W h.r ok0 (h.q.d (⟨0, 0, 1, 1, 0, 0, 7, 6, .slice (some ⟨z0, 0, none⟩) 1 1, ⟨#[]⟩⟩, [ada]) (by simp [stL, ada])) (by decide) (okF (by decide)) h.u _ (st0 _)).mono ?_
  rintro e w' ⟨fo, fn, fc, ho, hn, hc, he, hr, _, _, hf⟩
  exact ⟨fo, fn, fc, ho, hn, hc, he, hf, h.go hr hf⟩
theorem AW.at1 {w W : World} {b g z0 z1 z2 z3 z4 z5 N0 N1 : Nat} {T : Nat → Prop} (h : AW w W b g z0 z1 z2 z3 z4 z5 N0 N1 T S1) :
  (W.cell? ⟨g, 10, none⟩ = some (.int .u32 0) ∧ W.cell? ⟨g, 11, none⟩ = some (.int .u32 0) ∧ W.cell? ⟨g, 12, none⟩ = some (.int .u32 2) ∧ W.cell? ⟨g, 13, none⟩ = some (.int .u8 2) ∧ W.cell? ⟨g, 14, none⟩ = some (.int .u32 1) ∧ W.cell? ⟨g, 15, none⟩ = some (.int .u32 1) ∧ W.cell? ⟨g, 16, none⟩ = some (.int .u32 0) ∧ W.cell? ⟨g, 17, none⟩ = some (.int .u32 0) ∧ W.cell? ⟨g, 18, none⟩ = some (.slice (some ⟨z1, 0, none⟩) 1 1) ∧ W.cell? ⟨g, 19, none⟩ = some (.string ⟨#[]⟩)) ∧ Calls Tryz.prog 10 #[.pointer (some ⟨b, 0, none⟩), .agg #[.int .u32 0, .int .u32 0, .int .u32 2, .int .u8 2, .int .u32 1, .int .u32 1, .int .u32 0, .int .u32 0, .slice (some ⟨z1, 0, none⟩) 1 1, .string ⟨#[]⟩], .int .u32 1] W fun e w' => ∃ fo fn fc ho hn hc, e = .returned (.agg #[.int .u32 0, .int .u32 0, .int .u8 0, .int .u32 1, .int .u32 2, .slice fo fn fc, .slice ho hn hc]) ∧ Fr T W w' ∧ AW w w' b g z0 z1 z2 z3 z4 z5 N0 N1 (fun k => T k ∨ (W.heap.size ≤ k ∧ k < w'.heap.size)) S2 := by
 refine ⟨?_, ?_⟩
 ·obtain ⟨g', o', e, c⟩ := h.q.at_ 1 (by show _ < 20; omega)
  cases e
  exact c
 ·refine (apply_B b T S1 ⟨0, 0, 2, 2, 1, 1, 0, 0, .slice (some ⟨z1, 0, none⟩) 1 1, ⟨#[]⟩⟩ [fQ 1108606976] 1 W h.r ok1 (h.q.d (⟨0, 0, 2, 2, 1, 1, 0, 0, .slice (some ⟨z1, 0, none⟩) 1 1, ⟨#[]⟩⟩, [fQ 1108606976]) (by simp [stL])) (by decide) (okF (by decide)) h.u _ (st1 _)).mono ?_
  rintro e w' ⟨fo, fn, fc, ho, hn, hc, he, hr, _, _, hf⟩
  exact ⟨fo, fn, fc, ho, hn, hc, he, hf, h.go hr hf⟩
theorem AW.at2 {w W : World} {b g z0 z1 z2 z3 z4 z5 N0 N1 : Nat} {T : Nat → Prop} (h : AW w W b g z0 z1 z2 z3 z4 z5 N0 N1 T S2) :
  (W.cell? ⟨g, 20, none⟩ = some (.int .u32 0) ∧ W.cell? ⟨g, 21, none⟩ = some (.int .u32 0) ∧ W.cell? ⟨g, 22, none⟩ = some (.int .u32 1) ∧ W.cell? ⟨g, 23, none⟩ = some (.int .u8 2) ∧ W.cell? ⟨g, 24, none⟩ = some (.int .u32 1) ∧ W.cell? ⟨g, 25, none⟩ = some (.int .u32 2) ∧ W.cell? ⟨g, 26, none⟩ = some (.int .u32 0) ∧ W.cell? ⟨g, 27, none⟩ = some (.int .u32 0) ∧ W.cell? ⟨g, 28, none⟩ = some (.slice (some ⟨z2, 0, none⟩) 1 1) ∧ W.cell? ⟨g, 29, none⟩ = some (.string ⟨#[]⟩)) ∧ Calls Tryz.prog 10 #[.pointer (some ⟨b, 0, none⟩), .agg #[.int .u32 0, .int .u32 0, .int .u32 1, .int .u8 2, .int .u32 1, .int .u32 2, .int .u32 0, .int .u32 0, .slice (some ⟨z2, 0, none⟩) 1 1, .string ⟨#[]⟩], .int .u32 2] W fun e w' => ∃ fo fn fc ho hn hc, e = .returned (.agg #[.int .u32 0, .int .u32 0, .int .u8 5, .int .u32 0, .int .u32 0, .slice fo fn fc, .slice ho hn hc]) ∧ Fr T W w' ∧ AW w w' b g z0 z1 z2 z3 z4 z5 N0 N1 (fun k => T k ∨ (W.heap.size ≤ k ∧ k < w'.heap.size)) S2 := by
 refine ⟨?_, ?_⟩
 ·obtain ⟨g', o', e, c⟩ := h.q.at_ 2 (by show _ < 20; omega)
  cases e
  exact c
 ·refine (apply_B b T S2 ⟨0, 0, 1, 2, 1, 2, 0, 0, .slice (some ⟨z2, 0, none⟩) 1 1, ⟨#[]⟩⟩ [fQ 1108869120] 2 W h.r ok2 (h.q.d (⟨0, 0, 1, 2, 1, 2, 0, 0, .slice (some ⟨z2, 0, none⟩) 1 1, ⟨#[]⟩⟩, [fQ 1108869120]) (by simp [stL])) (by decide) (okF (by decide)) h.u _ (st2 _)).mono ?_
  rintro e w' ⟨fo, fn, fc, ho, hn, hc, he, hr, _, _, hf⟩
  exact ⟨fo, fn, fc, ho, hn, hc, he, hf, h.go hr hf⟩
set_option maxHeartbeats 4000000 in
set_option maxRecDepth 100000 in
theorem awake11 (w : World) (hg : GU w) : Calls Tryz.prog 6 #[] w fun e w' => e = .returned (.bool true) ∧ Fr (fun _ => False) w w' := by
 have HG := hide hg
 clear hg
 go_enter Tryz.func6, Tryz.ntmps6
 go_wp2_with fail
 refine (known_any _).mono ?_
 rintro e w1 ⟨ao, rfl, hs1, hf1⟩
 have H1 := hide (And.intro hs1 hf1)
 clear hs1 hf1
 go_wp2_with fail
 refine (new_B _ kn w1 (unhide H1).1 (fun n c e => (by cases e)) (by decide)).mono ?_
 rintro e w2 ⟨b, rfl, hb2, hf2⟩
 have H2 := hide hb2
 have F2 := hide hf2
 clear hb2 hf2
 go_wp2_with fail
 refine (records_B b _ _ _ (unhide H2)).mono ?_
 rintro e w' ⟨rfl, hw⟩
 obtain rfl := hw.symm
 clear hw
 go_wp2_with fail
 refine (story_any _).mono ?_
 rintro e w3 ⟨g, z0, z1, z2, z3, z4, z5, rfl, hq, hlow, hf3⟩
 have A0 : Hid (AW w w3 b g z0 z1 z2 z3 z4 z5 w2.heap.size w3.heap.size (fun k => w1.heap.size ≤ k ∧ k < w2.heap.size) ⟨kn, []⟩) := by
  have f1 := (unhide H1).2
  have f2 := unhide F2
  have f13 := (f1.trans f2 (fun _ _ h => h)).trans hf3 (fun _ _ h => h)
  have hs1 := f1.size
  have hs3 := hf3.size
  exact ⟨(unhide H2).fr hf3, hq, (unhide HG).fr f13, f13, fun k hk => ⟨by omega, by omega, .inl hk.2⟩, fun k hk => ⟨hlow k hk, hq.lt hk⟩, Nat.le_refl _, lt_of_cell ((unhide HG) 0 (by omega))⟩
 clear hq hlow hf3 H1 H2 F2 HG
 obtain ⟨⟨c0, c1, c2, c3, c4, c5, c6, c7, c8, c9⟩, hap⟩ := (unhide A0).at0
 have HAP := hide hap
 clear hap
 go_wp2_with fail
 refine (unhide HAP).mono ?_
 rintro e v0 ⟨fo0, fn0, fc0, ho0, hn0, hc0, rfl, hf, ha⟩
 have G0 := hide hf
 have B0 := hide ha
 clear HAP hf ha c0 c1 c2 c3 c4 c5 c6 c7 c8 c9
 have A1 := hide ((unhide B0).fr (box1 v0 (.cells #[.int .u32 0, .int .u32 0, .int .u8 0, .int .u32 1, .int .u32 1, .slice fo0 fn0 fc0, .slice ho0 hn0 hc0] 45)))
 obtain ⟨c0, c1, c2, c3, c4, c5, c6, c7, c8, c9⟩ := (unhide B0).at1.1
 have HAP := hide (unhide A1).at1.2
 have hgl : g < v0.heap.size := lt_of_cell c0
 go_wp2_with fail
 refine (unhide HAP).mono ?_
 rintro e v1 ⟨fo1, fn1, fc1, ho1, hn1, hc1, rfl, hf, ha⟩
 have G1 := hide hf
 have B1 := hide ha
 clear HAP hf ha c0 c1 c2 c3 c4 c5 c6 c7 c8 c9 hgl
 have A2 := hide ((unhide B1).fr (box1 v1 (.cells #[.int .u32 0, .int .u32 0, .int .u8 0, .int .u32 1, .int .u32 2, .slice fo1 fn1 fc1, .slice ho1 hn1 hc1] 45)))
 obtain ⟨c0, c1, c2, c3, c4, c5, c6, c7, c8, c9⟩ := (unhide B1).at2.1
 have HAP := hide (unhide A2).at2.2
 have hgl : g < v1.heap.size := lt_of_cell c0
 go_wp2_with fail
 refine (unhide HAP).mono ?_
 rintro e v2 ⟨fo2, fn2, fc2, ho2, hn2, hc2, rfl, hf, ha⟩
 have G2 := hide hf
 have B2 := hide ha
 clear HAP hf ha c0 c1 c2 c3 c4 c5 c6 c7 c8 c9 hgl
 have t0 := fun k => ((unhide B0).t k)
 have t1 := fun k => ((unhide B1).t k)
 have p01 : v1.heap[v0.heap.size]? = some (.cells #[.int .u32 0, .int .u32 0, .int .u8 0, .int .u32 1, .int .u32 1, .slice fo0 fn0 fc0, .slice ho0 hn0 hc0] 45) := ((unhide G1).block v0.heap.size (by simp) (fun hT => by have := (t0 _ hT).2.1; omega)).trans Array.getElem?_push_size
 have p0 : v2.heap[v0.heap.size]? = some (.cells #[.int .u32 0, .int .u32 0, .int .u8 0, .int .u32 1, .int .u32 1, .slice fo0 fn0 fc0, .slice ho0 hn0 hc0] 45) := ((unhide G2).block v0.heap.size (by have := lt_of_block p01; simp; omega) (fun hT => by
  have h1 := lt_of_block p01
  rcases hT with hT | hT
  ·have := (t0 _ hT).2.1; omega
  ·simp at hT; omega)).trans (((box1 v1 (.cells #[.int .u32 0, .int .u32 0, .int .u8 0, .int .u32 1, .int .u32 2, .slice fo1 fn1 fc1, .slice ho1 hn1 hc1] 45)).block _ (lt_of_block p01) (fun h => h)).trans p01)
 have p1 : v2.heap[v1.heap.size]? = some (.cells #[.int .u32 0, .int .u32 0, .int .u8 0, .int .u32 1, .int .u32 2, .slice fo1 fn1 fc1, .slice ho1 hn1 hc1] 45) := ((unhide G2).block v1.heap.size (by simp) (fun hT => by have := (t1 _ hT).2.1; omega)).trans Array.getElem?_push_size
 obtain ⟨_, _, a2, a3, a4, _, _⟩ := blk7 p0
 obtain ⟨_, _, b2, b3, b4, _, _⟩ := blk7 p1
 have hl0 := lt_of_block p0
 have hl1 := lt_of_block p1
 have HRc := hide (records_B b _ _ _ ((unhide B2).fr (box1 v2 (.cells #[.int .u32 0, .int .u32 0, .int .u8 5, .int .u32 0, .int .u32 0, .slice fo2 fn2 fc2, .slice ho2 hn2 hc2] 45))).r)
 have HF := hide ((unhide B2).f)
 clear t0 t1 p01 p0 p1 A0 A1 A2 B0 B1 B2 G0 G1 G2
 go_wp2_with fail
 refine (unhide HRc).mono ?_
 rintro e w' ⟨rfl, rfl⟩
 go_wp2_with fail
 go_ret
 exact ⟨rfl, (unhide HF).trans (box1 v2 _) (fun _ _ h => h)⟩
theorem own_z {w : World} {base e size n : Nat} {v : Value} {xs : List Value} (h : w.ownsRow base e size v n xs) : ∀ n c, v = .slice none n c → c = 0 := by
 rcases h.2 with ⟨rfl, rfl⟩ | ⟨g, cap, cur, rfl, _⟩
 ·intro n c e; cases e; rfl
 ·intro n c e; cases e
theorem Us.lt {w : World} {x : Value} {l : List Nat} (h : Us w x l) : ∀ g o n c, x = .slice (some ⟨g, o, none⟩) n c → 0 < n → g < w.heap.size := by
 intro g o n c e h0
 rcases h with ⟨a, c', e2, _⟩ | ⟨g', o', c', e2, h2⟩
 ·rw [e] at e2; cases e2; omega
 ·rw [e] at e2; cases e2; exact lt_of_cell (h2 0 h0)
end Go.Proofs.YtiknjghcjaaenaaGreatDoor
namespace Go.Proofs.YtiknjghcjaaenaaGreatDoor
open Go.ChangeShapes Go.WideShapes Go.ChangeAt Go.RowKit
set_option maxRecDepth 100000
theorem Tryz.ownKnob : ownKnob Tryz.prog.godebug = none := by kernel_rfl
theorem Fr.below {w w' : World} (h : Fr (fun _ => False) w w') : Below w.heap.size w w' := ⟨h.os, h.tape, h.output, h.size, fun k hk => h.block k hk (fun x => x)⟩
theorem laid_in {W : World} : ∀ {l : List (String × DataW Unit)} {ps : List MemPlace}, DataW.LaidVars Tryz.prog W l ps → ∀ {nm : String} {d : DataW Unit}, (nm, d) ∈ l →
  ∃ g t cs fuel p, Tryz.prog.globalNamed nm = some g ∧ (Tryz.prog.globals[g]?).map (·.type) = some t ∧ W.var? Tryz.prog nm = some cs ∧ DataW.trod (H := Unit) (fun _ => ()) Tryz.prog W 0 (fun _ => true) false fuel t cs.toList = some (d, p) ∧ ∀ x ∈ MemPlace.row ⟨g, 0, none⟩ cs.size, x ∈ ps := by
 intro l
 induction l with
 | nil => intro ps _ nm d hm; cases hm
 | cons y r ih =>
  intro ps h nm d hm
  obtain ⟨n, dd⟩ := y
  obtain ⟨g, t, cs, fuel, p, q, hg, ht, hv, hd, hr, rfl⟩ := h
  rcases List.mem_cons.1 hm with e | hm
  ·cases e
   exact ⟨g, t, cs, fuel, p, hg, ht, hv, hd, fun x hx => by simp [hx]⟩
  ·obtain ⟨g', t', cs', fuel', p', a1, a2, a3, a4, a5⟩ := ih hr hm
   exact ⟨g', t', cs', fuel', p', a1, a2, a3, a4, fun x hx => by simp [a5 x hx]⟩
def aggL : DataW Unit → List (DataW Unit)
 | .agg l => l
 | _ => []
def mOf : DataW Unit → Option Int
 | .agg (_ :: .lit (.int .u8 z) :: _) => some z
 | _ => none
def lit1 : DataW Unit → Value
 | .lit (.string l) => .string ⟨l.toArray⟩
 | .lit (.int k z) => .int k z
 | _ => undef
theorem units_m : (aggL Rows.laid_almoner_quant_units).map mOf = measL.map (fun m : Nat => some (m : Int)) := by kernel_rfl
theorem Tryz.cellsRow : Tryz.prog.cellsOf 157 = 5 := by kernel_rfl
theorem Tryz.cellsU8 : Tryz.prog.cellsOf 5 = 1 := by kernel_rfl
theorem gu_of_laid {W : World} {laid : List (String × DataW Unit)} (hL : laidMet Tryz.prog laid W) (hm : ("almoner/quant.units", Rows.laid_almoner_quant_units) ∈ laid) : GU W := by
 intro i hi
 obtain ⟨ps, hv, _, _⟩ := hL
 obtain ⟨g', t', cs, fuel, p, a1, a2, a3, a4, _⟩ := laid_in hv hm
 have hg : Tryz.prog.globalNamed "almoner/quant.units" = some 1 := by kernel_rfl
 obtain rfl := Option.some.inj (hg.symm.trans a1)
 obtain rfl := Option.some.inj ((show (Tryz.prog.globals[1]?).map (·.type) = some 158 by kernel_rfl).symm.trans a2)
 obtain ⟨xs, m, _, hx, _, hlen, hall⟩ := DataW.trod_array Tryz.underlying158 a4
 simp only [Prod.mk.injEq] at hx
 have h1 := hall i hi
 obtain ⟨y, hy⟩ : ∃ y, xs[i]? = some y := ⟨xs[i], List.getElem?_eq_getElem (by omega)⟩
 have hmi : mOf y.1 = some ((measL.getD i 0 : Nat) : Int) := by
  have e := units_m
  rw [hx.1] at e
  have e2 := congrArg (fun l => l[i]?) e
  have hml : i < measL.length := hi
  simp only [aggL, List.getElem?_map, hy, Option.map_some, List.getElem?_eq_getElem hml, Option.some.injEq] at e2
  rw [e2, List.getD, List.getElem?_eq_getElem hml, Option.getD_some]
 rw [Tryz.cellsRow, hy] at h1
 obtain ⟨ys, n, _, hy2, _, hlen2, hf⟩ := DataW.trod_struct Tryz.underlying157 h1
 have h2 := hf 1 _ rfl
 rw [hy2] at hmi
 have hl5 : ys.length = 5 := hlen2
 rcases ys with _ | ⟨y0, _ | ⟨y1, r⟩⟩
 ·simp at hl5
 ·simp at hl5
 ·obtain ⟨v, e1, e2, _⟩ := DataW.trod_int Tryz.underlying5 h2
  rw [e2] at hmi
  simp only [List.map_cons, mOf, Option.some.injEq] at hmi
  subst hmi
  have e1' : ((((cs.toList.drop (i * 5)).take 5).drop 1).take (Tryz.prog.cellsOf 5)) = [.int .u8 ((measL.getD i 0 : Nat) : Int)] := e1
  rw [Tryz.cellsU8] at e1'
  have e3 := congrArg List.head? e1'
  simp only [List.head?_eq_getElem?, List.getElem?_take, List.getElem?_drop] at e3
  rw [World.var?_cell hg a3 (i * 5 + 1)]
  simpa using e3
noncomputable def uWorld (os : Os) : World :=
 let w0 := World.holding Tryz.prog os ⟨#[], #[], []⟩
 { w0 with heap := w0.heap.modify 1 fun
   | .cells _ t frozen => .cells ((aggL Rows.laid_almoner_quant_units).flatMap fun d => (aggL d).map lit1).toArray t frozen
   | o => o }
end Go.Proofs.YtiknjghcjaaenaaGreatDoor
namespace Go.Proofs.YtiknjghcjaaenaaGreatDoor
open Go.ChangeShapes Go.WideShapes Go.ChangeAt Go.RowKit Go.Deep
set_option maxRecDepth 100000
theorem nat_u32 {a : Int} (h : (Lit.int .u32 a).wf = true) : ∃ n : Nat, a = n ∧ n < 4294967296 := ⟨a.toNat, by have := bounds_u32 h; omega, by have := bounds_u32 h; omega⟩
theorem nat_u8 {a : Int} (h : (Lit.int .u8 a).wf = true) : ∃ n : Nat, a = n ∧ n < 256 := ⟨a.toNat, by have := bounds_u8 h; omega, by have := bounds_u8 h; omega⟩
theorem bulk_pos {H : Type} (d : DataW H) : 1 ≤ Rows.uptoBulk d := by
 unfold Rows.uptoBulk
 split <;> omega
theorem bulk_len {H : Type} : ∀ l : List (DataW H), l.length ≤ Rows.uptoBulkAll l
 | [] => Nat.zero_le _
 | d :: r => by
  have h1 := bulk_pos d
  have h2 := bulk_len r
  simp only [Rows.uptoBulkAll, List.length_cons]
  omega
theorem bulk_in {H : Type} : ∀ (l : List (DataW H)) (d : DataW H), d ∈ l → Rows.uptoBulk d ≤ Rows.uptoBulkAll l
 | [], d, h => by cases h
 | x :: r, d, h => by
  simp only [Rows.uptoBulkAll]
  rcases List.mem_cons.1 h with rfl | h
  ·omega
  ·have := bulk_in r d h
   omega
theorem Tryz.cellsU32 : Tryz.prog.cellsOf 31 = 1 := by kernel_rfl
theorem Tryz.cellsF32 : Tryz.prog.cellsOf 53 = 1 := by kernel_rfl
theorem Tryz.cellsStr : Tryz.prog.cellsOf 9 = 1 := by kernel_rfl
theorem Tryz.cellsSt : Tryz.prog.cellsOf 33 = 3 := by kernel_rfl
theorem Tryz.cellsFd : Tryz.prog.cellsOf 55 = 5 := by kernel_rfl
theorem p3_of_trod {H : Type} {enc : TypeId × Value → H} {W : World} {fuel : Nat} {cs : List Value} {x : DataW H × List MemPlace} (h : DataW.trod enc Tryz.prog W 0 (fun _ => true) true fuel 33 cs = some x) :
  ∃ s : P3, cs = [.int .u32 (s.a : Nat), .int .u32 (s.r : Nat), .int .u32 (s.w : Nat)] := by
 obtain ⟨xs, n, _, rfl, hl, hlen, hf⟩ := DataW.trod_struct Tryz.underlying33 h
 rw [Tryz.cellsSt] at hl
 have h0 := hf 0 _ rfl
 have h1 := hf 1 _ rfl
 have h2 := hf 2 _ rfl
 match cs, hl with
 | [c0, c1, c2], _ =>
  match xs, hlen with
  | [y0, y1, y2], _ =>
   simp [Tryz.cellsU32] at h0 h1 h2
   obtain ⟨a, e0, rfl, wa⟩ := DataW.trod_int Tryz.underlying31 h0
   obtain ⟨b, e1, rfl, wb⟩ := DataW.trod_int Tryz.underlying31 h1
   obtain ⟨c, e2, rfl, wc⟩ := DataW.trod_int Tryz.underlying31 h2
   simp only [List.cons.injEq, and_true] at e0 e1 e2
   subst e0 e1 e2
   obtain ⟨a, rfl, _⟩ := nat_u32 wa
   obtain ⟨b, rfl, _⟩ := nat_u32 wb
   obtain ⟨c, rfl, _⟩ := nat_u32 wc
   exact ⟨⟨a, b, c⟩, rfl⟩
theorem stf_of_trod {H : Type} {enc : TypeId × Value → H} {W : World} {fuel : Nat} {v : Value} {x : DataW H × List MemPlace} (hf : DataW.trod enc Tryz.prog W 0 (fun _ => true) true fuel 22 [v] = some x) :
  ∃ A : List P3, Stf W v A ∧ A.length + 1 ≤ Rows.uptoBulk x.1 := by
 rcases open_slice Tryz.underlying22 hf with ⟨hcs, hx⟩ | ⟨a, len', cap', m, n, D, Pl, hcs, _, hl, hm, hmm, hx, hel⟩
 ·simp only [List.cons.injEq, and_true] at hcs
  subst hcs
  exact ⟨[], .inl ⟨none, 0, rfl, rfl⟩, bulk_pos _⟩
 ·simp only [List.cons.injEq, and_true] at hcs
  subst hcs
  subst hx
  simp only [if_true] at hmm
  subst hmm
  have hp : ∀ i, ∃ s : P3, i < m → ∀ j, j < 3 → W.cell? ((a.add (i * 3)).add j) = [Value.int .u32 (s.a : Nat), .int .u32 (s.r : Nat), .int .u32 (s.w : Nat)][j]? := fun i => by
   by_cases hi : i < m
   ·obtain ⟨cs', h1, h2⟩ := hel i hi
    rw [Tryz.cellsSt] at h1
    obtain ⟨_, hlen, hcell⟩ := World.cells?_some h1
    obtain ⟨s, rfl⟩ := p3_of_trod h2
    exact ⟨s, fun _ => hcell⟩
   ·exact ⟨⟨0, 0, 0⟩, fun h => absurd h hi⟩
  obtain ⟨Q, hQ⟩ : ∃ Q : Nat → P3, ∀ i, i < m → ∀ j, j < 3 → W.cell? ((a.add (i * 3)).add j) = [Value.int .u32 ((Q i).a : Nat), .int .u32 ((Q i).r : Nat), .int .u32 ((Q i).w : Nat)][j]? := ⟨fun i => Classical.choose (hp i), fun i => Classical.choose_spec (hp i)⟩
  have hbulk := bulk_len ((List.range len').map D)
  have hd : Rows.uptoBulkAll ((List.range len').map D) + 1 ≤ Rows.uptoBulk (DataW.slice ((List.range len').map D) ((List.range (m - len')).map fun j => D (len' + j)) : DataW H) := by
   simp only [Rows.uptoBulk]; omega
  refine ⟨(List.range len').map Q, ?_, by simp at hbulk ⊢; omega⟩
  by_cases h0 : len' = 0
  ·subst h0
   exact .inl ⟨some a, m, by simp, by simp⟩
  ·have hc0 := hQ 0 (by omega) 0 (by decide)
   obtain ⟨g, o, sp⟩ := a
   have hsp : sp = none := by simpa [Addr.add] using World.cell?_spot hc0
   subst hsp
   refine .inr ⟨g, o, m, by simp, fun j hj => ?_⟩
   have hj' : j < len' := by simpa using hj
   have hq := hQ j (by omega)
   have e : ∀ i, ((⟨g, o, none⟩ : Addr).add (j * 3)).add i = ⟨g, o + j * 3 + i, none⟩ := fun i => by rw [addr_add, addr_add]
   have q0 := hq 0 (by decide)
   have q1 := hq 1 (by decide)
   have q2 := hq 2 (by decide)
   rw [e] at q0 q1 q2
   simp at q0 q1 q2
   simp only [List.getElem_map, List.getElem_range]
   exact ⟨q0, q1, q2⟩
theorem us_of_trod {H : Type} {enc : TypeId × Value → H} {W : World} {fuel : Nat} {v : Value} {x : DataW H × List MemPlace} (hf : DataW.trod enc Tryz.prog W 0 (fun _ => true) true fuel 24 [v] = some x) :
  ∃ l : List Nat, Us W v l ∧ l.length + 1 ≤ Rows.uptoBulk x.1 := by
 rcases open_ints Tryz.underlying24 Tryz.underlying31 Tryz.cellsU32 hf with ⟨hcs, hx⟩ | ⟨a, len, cap, zs, hcs, _, hl, hm, hz, hx, hcell, hwz⟩
 ·simp only [List.cons.injEq, and_true] at hcs
  subst hcs
  exact ⟨[], .inl ⟨none, 0, rfl, rfl⟩, bulk_pos _⟩
 ·simp only [List.cons.injEq, and_true] at hcs
  subst hcs
  subst hx
  simp only [if_true] at hz
  have hlen : ((zs.take len).map Int.toNat).length = len := by simp; omega
  have hbulk : len + 1 ≤ Rows.uptoBulk (DataW.slice (lits .u32 (zs.take len)) (lits .u32 (zs.drop len)) : DataW H) := by
   have h1 := bulk_len (lits .u32 (zs.take len) : List (DataW H))
   have h2 : (lits .u32 (zs.take len) : List (DataW H)).length = len := by simp [lits]; omega
   simp only [Rows.uptoBulk]
   omega
  by_cases h0 : len = 0
  ·subst h0
   exact ⟨[], .inl ⟨some a, cap, rfl, rfl⟩, bulk_pos _⟩
  ·obtain ⟨b, off, rfl, hc⟩ := ints_at hcell (show 0 < zs.length by omega)
   refine ⟨(zs.take len).map Int.toNat, .inr ⟨b, off, cap, by rw [hlen], fun j hj => ?_⟩, by rw [hlen]; exact hbulk⟩
   have hj' : j < len := by rw [hlen] at hj; exact hj
   rw [hc j (by omega)]
   have hw := bounds_u32 (hwz (zs.getD j 0) (by simp [List.getD, show j < zs.length by omega]))
   simp [show j < zs.length by omega] at hw ⊢
   omega
theorem trod_floatw {H : Type} {enc : TypeId × Value → H} {P : Program} {w : World} {base : Nat} {spare : Nat → Bool} {held : Bool} {fuel : Nat} {t : TypeId} {cs : List Value} {x : DataW H × List MemPlace} (ht : P.underlying t = some (.float .f32)) (h : DataW.trod enc P w base spare held fuel t cs = some x) : ∃ b, cs = [.float .f32 b] ∧ b < 4294967296 := by
 cases fuel with
 | zero => simp [DataW.trod] at h
 | succ n =>
  unfold DataW.trod at h
  rw [ht] at h
  split at h <;> simp_all [Lit.wf]
  rename_i k' b hk
  subst hk
  by_cases hh : k' = FloatKind.f32 ∧ decide (b < 4294967296) = true
  ·exact ⟨_, ⟨hh.1, rfl⟩, of_decide_eq_true hh.2⟩
  ·exact absurd ((if_neg hh).symm.trans h) (by simp)
theorem f5_of_trod {H : Type} {enc : TypeId × Value → H} {W : World} {fuel : Nat} {cs : List Value} {x : DataW H × List MemPlace} (h : DataW.trod enc Tryz.prog W 0 (fun _ => true) true fuel 55 cs = some x) :
  ∃ s : F5, (s.v < 4294967296 ∧ s.u < 256) ∧ cs = [.string s.n, .int .u8 (s.k : Nat), .string s.t, .float .f32 s.v, .int .u8 (s.u : Nat)] := by
 obtain ⟨xs, n, _, rfl, hl, hlen, hf⟩ := DataW.trod_struct Tryz.underlying55 h
 rw [Tryz.cellsFd] at hl
 have h0 := hf 0 _ rfl
 have h1 := hf 1 _ rfl
 have h2 := hf 2 _ rfl
 have h3 := hf 3 _ rfl
 have h4 := hf 4 _ rfl
 match cs, hl with
 | [c0, c1, c2, c3, c4], _ =>
  match xs, hlen with
  | [y0, y1, y2, y3, y4], _ =>
   simp [Tryz.cellsU8, Tryz.cellsStr, Tryz.cellsF32] at h0 h1 h2 h3 h4
   obtain ⟨a, e0, rfl, _⟩ := DataW.trod_string Tryz.underlying9 h0
   obtain ⟨b, e1, rfl, wb⟩ := DataW.trod_int Tryz.underlying5 h1
   obtain ⟨c, e2, rfl, _⟩ := DataW.trod_string Tryz.underlying9 h2
   obtain ⟨d, e3, wd⟩ := trod_floatw Tryz.underlying53 h3
   obtain ⟨e, e4, rfl, we⟩ := DataW.trod_int Tryz.underlying5 h4
   simp only [List.cons.injEq, and_true] at e0 e1 e2 e3 e4
   subst e0 e1 e2 e3 e4
   obtain ⟨b, rfl, _⟩ := nat_u8 wb
   obtain ⟨e, rfl, he⟩ := nat_u8 we
   exact ⟨⟨a, b, c, d, e⟩, ⟨wd, he⟩, rfl⟩
theorem fdc_of_trod {H : Type} {enc : TypeId × Value → H} {W : World} {fuel : Nat} {v : Value} {x : DataW H × List MemPlace} (hf : DataW.trod enc Tryz.prog W 0 (fun _ => true) true fuel 39 [v] = some x) :
  ∃ A : List F5, FdC W W.heap.size v A ∧ (∀ f ∈ A, f.v < 4294967296 ∧ f.u < 256) ∧ A.length + 1 ≤ Rows.uptoBulk x.1 := by
 rcases open_slice Tryz.underlying39 hf with ⟨hcs, hx⟩ | ⟨a, len', cap', m, n, D, Pl, hcs, _, hl, hm, hmm, hx, hel⟩
 ·simp only [List.cons.injEq, and_true] at hcs
  subst hcs
  exact ⟨[], ⟨.inl ⟨none, 0, rfl, rfl⟩, fun g o n c e => by (cases e), fun xo n c e => by (cases e; omega), fun n c e => by (cases e; rfl)⟩, fun f hf => (by cases hf), bulk_pos _⟩
 ·simp only [List.cons.injEq, and_true] at hcs
  subst hcs
  subst hx
  simp only [if_true] at hmm
  subst hmm
  have hp : ∀ i, ∃ s : F5, (s.v < 4294967296 ∧ s.u < 256) ∧ (i < m → ∀ j, j < 5 → W.cell? ((a.add (i * 5)).add j) = [Value.string s.n, .int .u8 (s.k : Nat), .string s.t, .float .f32 s.v, .int .u8 (s.u : Nat)][j]?) := fun i => by
   by_cases hi : i < m
   ·obtain ⟨cs', h1, h2⟩ := hel i hi
    rw [Tryz.cellsFd] at h1
    obtain ⟨_, hlen, hcell⟩ := World.cells?_some h1
    obtain ⟨s, hs, rfl⟩ := f5_of_trod h2
    exact ⟨s, hs, fun _ => hcell⟩
   ·exact ⟨⟨ByteArray.empty, 0, ByteArray.empty, 0, 0⟩, ⟨by decide, by decide⟩, fun h => absurd h hi⟩
  obtain ⟨Q, hQb, hQ⟩ : ∃ Q : Nat → F5, (∀ i, (Q i).v < 4294967296 ∧ (Q i).u < 256) ∧ ∀ i, i < m → ∀ j, j < 5 → W.cell? ((a.add (i * 5)).add j) = [Value.string (Q i).n, .int .u8 ((Q i).k : Nat), .string (Q i).t, .float .f32 (Q i).v, .int .u8 ((Q i).u : Nat)][j]? := ⟨fun i => Classical.choose (hp i), fun i => (Classical.choose_spec (hp i)).1, fun i => (Classical.choose_spec (hp i)).2⟩
  have hbulk := bulk_len ((List.range len').map D)
  have hd : Rows.uptoBulkAll ((List.range len').map D) + 1 ≤ Rows.uptoBulk (DataW.slice ((List.range len').map D) ((List.range (m - len')).map fun j => D (len' + j)) : DataW H) := by
   simp only [Rows.uptoBulk]; omega
  suffices hfd : Fds W (.slice (some a) len' m) ((List.range len').map Q) by
   refine ⟨(List.range len').map Q, ⟨hfd, fun g o n c e h0 => ?_, fun xo n c e => by (cases e; omega), fun n c e => by (cases e)⟩, fun f hf => ?_, by simp at hbulk ⊢; omega⟩
   ·cases e
    obtain ⟨g', o', e', hc'⟩ := hfd.at_ 0 (by simpa using h0)
    cases e'
    exact lt_of_cell hc'.1
   ·obtain ⟨i, _, rfl⟩ := List.mem_map.1 hf
    exact hQb i
  by_cases h0 : len' = 0
  ·subst h0
   exact .inl ⟨some a, m, by simp, by simp⟩
  ·have hc0 := hQ 0 (by omega) 0 (by decide)
   obtain ⟨g, o, sp⟩ := a
   have hsp : sp = none := by simpa [Addr.add] using World.cell?_spot hc0
   subst hsp
   refine .inr ⟨g, o, m, by simp, fun j hj => ?_⟩
   have hj' : j < len' := by simpa using hj
   have hq := hQ j (by omega)
   have e : ∀ i, ((⟨g, o, none⟩ : Addr).add (j * 5)).add i = ⟨g, o + j * 5 + i, none⟩ := fun i => by rw [addr_add, addr_add]
   have q0 := hq 0 (by decide)
   have q1 := hq 1 (by decide)
   have q2 := hq 2 (by decide)
   have q3 := hq 3 (by decide)
   have q4 := hq 4 (by decide)
   rw [e] at q0 q1 q2 q3 q4
   simp at q0 q1 q2 q3 q4
   simp only [List.getElem_map, List.getElem_range]
   exact ⟨q0, q1, q2, q3, q4⟩
set_option maxRecDepth 100000
theorem Tryz.cellsId : Tryz.prog.cellsOf 38 = 2 := by kernel_rfl
theorem Tryz.cellsRq : Tryz.prog.cellsOf 41 = 10 := by kernel_rfl
theorem Tryz.cellsPlay : Tryz.prog.cellsOf 26 = 3 := by kernel_rfl
theorem Tryz.cellsSls : Tryz.prog.cellsOf 22 = 1 := by kernel_rfl
theorem Tryz.cellsSlu : Tryz.prog.cellsOf 24 = 1 := by kernel_rfl
theorem Tryz.cellsSlf : Tryz.prog.cellsOf 39 = 1 := by kernel_rfl
theorem Tryz.cellsSlq : Tryz.prog.cellsOf 23 = 1 := by kernel_rfl
theorem id_of_trod {H : Type} {enc : TypeId × Value → H} {W : World} {fuel : Nat} {cs : List Value} {x : DataW H × List MemPlace} (h : DataW.trod enc Tryz.prog W 0 (fun _ => true) true fuel 38 cs = some x) :
  ∃ a b : Nat, cs = [.int .u32 (a : Nat), .int .u32 (b : Nat)] := by
 obtain ⟨xs, n, _, rfl, hl, hlen, hf⟩ := DataW.trod_struct Tryz.underlying38 h
 rw [Tryz.cellsId] at hl
 have h0 := hf 0 _ rfl
 have h1 := hf 1 _ rfl
 match cs, hl with
 | [c0, c1], _ =>
  match xs, hlen with
  | [y0, y1], _ =>
   simp [Tryz.cellsU32] at h0 h1
   obtain ⟨a, e0, rfl, wa⟩ := DataW.trod_int Tryz.underlying31 h0
   obtain ⟨b, e1, rfl, wb⟩ := DataW.trod_int Tryz.underlying31 h1
   simp only [List.cons.injEq, and_true] at e0 e1
   subst e0 e1
   obtain ⟨a, rfl, _⟩ := nat_u32 wa
   obtain ⟨b, rfl, _⟩ := nat_u32 wb
   exact ⟨a, b, rfl⟩
set_option maxRecDepth 100000
set_option maxRecDepth 100000
theorem bulk_two {H : Type} : ∀ l : List (DataW H), (∀ d ∈ l, 2 ≤ Rows.uptoBulk d) → 2 * l.length ≤ Rows.uptoBulkAll l
 | [], _ => Nat.zero_le _
 | d :: r, h => by
  have h1 := h d (by simp)
  have h2 := bulk_two r (fun d hd => h d (by simp [hd]))
  simp only [Rows.uptoBulkAll, List.length_cons]
  omega
theorem stf_len {H : Type} {enc : TypeId × Value → H} {W : World} {fuel : Nat} {v : Value} {x : DataW H × List MemPlace} (hf : DataW.trod enc Tryz.prog W 0 (fun _ => true) true fuel 22 [v] = some x) {A : List P3} (hA : Stf W v A) : 2 * A.length ≤ Rows.uptoBulk x.1 := by
 obtain ⟨xo, xc, e⟩ := hA.form
 rcases open_slice Tryz.underlying22 hf with ⟨hcs, hx⟩ | ⟨a, len', cap', m, n, D, Pl, hcs, _, hl, hm, hmm, hx, hel⟩
 ·simp only [List.cons.injEq, and_true] at hcs
  rw [hcs] at e
  have e2 := (Value.slice.inj e).2.1
  omega
 ·simp only [List.cons.injEq, and_true] at hcs
  rw [hcs] at e
  cases e
  subst hx
  simp only [if_true] at hmm
  have h2 := bulk_two ((List.range A.length).map D) (fun d hd => by
   obtain ⟨i, hi, rfl⟩ := List.mem_map.1 hd
   have hi' : i < A.length := by simpa using hi
   obtain ⟨cs', h1, h2⟩ := hel i (by omega)
   obtain ⟨xs, n, _, hx, hl, hlen, hf⟩ := DataW.trod_struct Tryz.underlying33 h2
   simp only [Prod.mk.injEq] at hx
   rw [hx.1]
   have h3 := bulk_len (xs.map (·.1))
   have h4 : xs.length = 3 := hlen
   simp only [List.length_map] at h3
   simp only [Rows.uptoBulk]
   omega)
  simp only [List.length_map, List.length_range] at h2
  simp only [Rows.uptoBulk]
  omega
end Go.Proofs.YtiknjghcjaaenaaGreatDoor
namespace Go.Proofs.YtiknjghcjaaenaaGreatDoor
open Go.RowKit
theorem bl_irr : ∀ a : List UInt8, Op.bytesLess a a = false
 | [] => rfl
 | x :: r => by
  simp only [Op.bytesLess, bl_irr r, Bool.and_false, Bool.or_false, decide_eq_false_iff_not]
  exact UInt8.lt_irrefl x
theorem bl_trans : ∀ a b c : List UInt8, Op.bytesLess a b = true → Op.bytesLess b c = true → Op.bytesLess a c = true
 | [], b, [], h, k => by cases b <;> simp [Op.bytesLess] at h k
 | [], b, z :: c, h, k => rfl
 | x :: a, [], c, h, k => by simp [Op.bytesLess] at h
 | x :: a, y :: b, [], h, k => by simp [Op.bytesLess] at k
 | x :: a, y :: b, z :: c, h, k => by
  simp only [Op.bytesLess, Bool.or_eq_true, decide_eq_true_eq, Bool.and_eq_true, beq_iff_eq] at h k ⊢
  rcases h with h | ⟨rfl, h⟩
  ·rcases k with k | ⟨rfl, k⟩
   ·exact .inl (UInt8.lt_trans h k)
   ·exact .inl h
  ·rcases k with k | ⟨rfl, k⟩
   ·exact .inl k
   ·exact .inr ⟨rfl, bl_trans a b c h k⟩
theorem bl_tri : ∀ a b : List UInt8, Op.bytesLess a b = true ∨ a = b ∨ Op.bytesLess b a = true
 | [], [] => .inr (.inl rfl)
 | [], y :: b => .inl rfl
 | x :: a, [] => .inr (.inr rfl)
 | x :: a, y :: b => by
  simp only [Op.bytesLess, Bool.or_eq_true, decide_eq_true_eq, Bool.and_eq_true, beq_iff_eq]
  have ht : x < y ∨ x = y ∨ y < x := by
   rcases Nat.lt_trichotomy x.toNat y.toNat with h | h | h
   ·exact .inl (UInt8.lt_iff_toNat_lt.2 h)
   ·exact .inr (.inl (UInt8.toNat_inj.1 h))
   ·exact .inr (.inr (UInt8.lt_iff_toNat_lt.2 h))
  rcases ht with h | rfl | h
  ·exact .inl (.inl h)
  ·rcases bl_tri a b with h | rfl | h
   ·exact .inl (.inr ⟨rfl, h⟩)
   ·exact .inr (.inl rfl)
   ·exact .inr (.inr (.inr ⟨rfl, h⟩))
  ·exact .inr (.inr (.inl h))
theorem bl_asym (a b : List UInt8) (h : Op.bytesLess a b = true) : Op.bytesLess b a = false := by
 cases k : Op.bytesLess b a
 ·rfl
 ·have := bl_trans a b a h k
  rw [bl_irr] at this
  cases this
theorem bl_not (a b : List UInt8) : (!(Op.bytesLess a b || a == b)) = Op.bytesLess b a := by
 rcases bl_tri a b with h | rfl | h
 ·rw [h, bl_asym a b h]; rfl
 ·rw [bl_irr]; simp
 ·rw [h, bl_asym b a h]
  cases e : a == b
  ·rfl
  ·rw [beq_iff_eq] at e
   subst e
   rw [bl_irr] at h
   cases h
def gfld (gone : Bool) (f : F5) : Bool := if f.n.size < 1 ∨ 64 < f.n.size then false else if f.k = 1 then decide (f.t.size ≤ 64) && decide (f.v = 0) && decide (f.u = 0) else if f.k = 2 then canB f.v && decide (1 ≤ f.u ∧ f.u ≤ 21) && f.t.toList.isEmpty else decide (f.k = 3) && gone && f.t.toList.isEmpty && decide (f.v = 0) && decide (f.u = 0)
def gris (gone : Bool) : ByteArray → List F5 → Bool
 | _, [] => true
 | a, f :: r => gfld gone f && Op.bytesLess a.toList f.n.toList && gris gone f.n r
def gfds (gone : Bool) : List F5 → Bool
 | [] => true
 | f :: r => gfld gone f && gris gone f.n r
theorem size_toList (b : ByteArray) : b.toList.length = b.size := by
 rw [Lib.toList_data]
 exact Array.length_toList
theorem empty_toList (b : ByteArray) : b.toList.isEmpty = decide (b.size = 0) := by
 rw [← size_toList b]
 cases b.toList <;> simp
theorem bl_pos {a b : List UInt8} (h : Op.bytesLess a b = true) : 1 ≤ b.length := by
 cases b
 ·cases a <;> simp [Op.bytesLess] at h
 ·simp
theorem bl_nil (b : ByteArray) : Op.bytesLess (ByteArray.toList ⟨#[]⟩) b.toList = decide (1 ≤ b.size) := by
 rw [← size_toList b, Lib.toList_data]
 cases b.toList <;> simp [Op.bytesLess]
theorem gfld_eq (gone : Bool) (f : F5) (h : 1 ≤ f.n.size) : gfld gone f = (fldB f && (decide (f.k ≠ 3) || gone)) := by
 unfold gfld fldB
 rw [empty_toList]
 have h1 : ¬ f.n.size < 1 := by omega
 by_cases h2 : f.n.size ≤ 64
 ·have h3 : ¬ 64 < f.n.size := by omega
  by_cases k1 : f.k = 1
  ·simp [h1, h2, h3, k1, Bool.and_assoc]
  ·by_cases k2 : f.k = 2
   ·by_cases e : f.t.size = 0
    ·simp [h1, h2, h3, k2, e]
    ·simp [h1, h2, h3, k2, e]
   ·by_cases k3 : f.k = 3
    ·by_cases e : f.t.size = 0
     ·cases gone <;> simp [h1, h2, h3, k3, e]
     ·simp [h1, h2, h3, k3, e]
    ·simp [h1, h2, h3, k1, k2, k3]
 ·have h3 : 64 < f.n.size := by omega
  simp [h2, h3]
theorem gris_eq (gone : Bool) : ∀ (l : List F5) (a : ByteArray), gris gone a l = risB gone a l
 | [], _ => rfl
 | f :: r, a => by
  unfold gris risB sleB
  rw [bl_not, gris_eq gone r]
  cases h : Op.bytesLess a.toList f.n.toList
  ·simp
  ·rw [gfld_eq gone f (by rw [← size_toList]; exact bl_pos h)]
   simp
theorem gfds_eq (gone : Bool) (l : List F5) : (gfds gone l && decide (l.length ≤ 32)) = fdsB l gone := by
 unfold fdsB
 rw [Bool.and_comm]
 congr 1
 cases l with
 | nil => rfl
 | cons f r =>
  rw [← gris_eq]
  show (gfld gone f && gris gone f.n r) = (gfld gone f && Op.bytesLess (ByteArray.toList ⟨#[]⟩) f.n.toList && gris gone f.n r)
  rw [bl_nil]
  by_cases h : 1 ≤ f.n.size
  ·simp [h]
  ·have : gfld gone f = false := by unfold gfld; rw [if_pos (by omega)]
   simp [this]
end Go.Proofs.YtiknjghcjaaenaaGreatDoor
namespace Go.Proofs.YtiknjghcjaaenaaGreatDoor
open Go.RowKit Go.Shelf
def unitC : Array Value := #[.string ⟨#[103]⟩, .int .i64 1, .int .i64 1, .int .i64 1, .int .i64 0, .int .i64 1, .string ⟨#[109, 103]⟩, .int .i64 1, .int .i64 1, .int .i64 1000, .int .i64 0, .int .i64 1, .string ⟨#[117, 103]⟩, .int .i64 1, .int .i64 1, .int .i64 1000000, .int .i64 0, .int .i64 1, .string ⟨#[107, 103]⟩, .int .i64 1, .int .i64 1000, .int .i64 1, .int .i64 0, .int .i64 1, .string ⟨#[108, 98]⟩, .int .i64 1, .int .i64 45359237, .int .i64 100000, .int .i64 0, .int .i64 1, .string ⟨#[76]⟩, .int .i64 2, .int .i64 1, .int .i64 1, .int .i64 0, .int .i64 1, .string ⟨#[109, 76]⟩, .int .i64 2, .int .i64 1, .int .i64 1000, .int .i64 0, .int .i64 1, .string ⟨#[109]⟩, .int .i64 3, .int .i64 1, .int .i64 1, .int .i64 0, .int .i64 1, .string ⟨#[99, 109]⟩, .int .i64 3, .int .i64 1, .int .i64 100, .int .i64 0, .int .i64 1, .string ⟨#[105, 110]⟩, .int .i64 3, .int .i64 254, .int .i64 10000, .int .i64 0, .int .i64 1, .string ⟨#[67]⟩, .int .i64 4, .int .i64 1, .int .i64 1, .int .i64 27315, .int .i64 100, .string ⟨#[70]⟩, .int .i64 4, .int .i64 5, .int .i64 9, .int .i64 45967, .int .i64 100, .string ⟨#[75]⟩, .int .i64 4, .int .i64 1, .int .i64 1, .int .i64 0, .int .i64 1, .string ⟨#[107, 80, 97]⟩, .int .i64 5, .int .i64 1, .int .i64 1, .int .i64 0, .int .i64 1, .string ⟨#[109, 109, 72, 103]⟩, .int .i64 5, .int .i64 101325, .int .i64 760000, .int .i64 0, .int .i64 1, .string ⟨#[109, 109, 111, 108, 47, 76]⟩, .int .i64 6, .int .i64 1, .int .i64 1, .int .i64 0, .int .i64 1, .string ⟨#[109, 103, 47, 100, 76]⟩, .int .i64 6, .int .i64 10000, .int .i64 180156, .int .i64 0, .int .i64 1, .string ⟨#[47, 109, 105, 110]⟩, .int .i64 7, .int .i64 1, .int .i64 1, .int .i64 0, .int .i64 1, .string ⟨#[47, 115]⟩, .int .i64 7, .int .i64 60, .int .i64 1, .int .i64 0, .int .i64 1, .string ⟨#[37]⟩, .int .i64 8, .int .i64 1, .int .i64 1, .int .i64 0, .int .i64 1, .string ⟨#[49]⟩, .int .i64 8, .int .i64 100, .int .i64 1, .int .i64 0, .int .i64 1]
def unitN : List ByteArray := [⟨#[103]⟩, ⟨#[109, 103]⟩, ⟨#[117, 103]⟩, ⟨#[107, 103]⟩, ⟨#[108, 98]⟩, ⟨#[76]⟩, ⟨#[109, 76]⟩, ⟨#[109]⟩, ⟨#[99, 109]⟩, ⟨#[105, 110]⟩, ⟨#[67]⟩, ⟨#[70]⟩, ⟨#[75]⟩, ⟨#[107, 80, 97]⟩, ⟨#[109, 109, 72, 103]⟩, ⟨#[109, 109, 111, 108, 47, 76]⟩, ⟨#[109, 103, 47, 100, 76]⟩, ⟨#[47, 109, 105, 110]⟩, ⟨#[47, 115]⟩, ⟨#[37]⟩, ⟨#[49]⟩]
set_option maxHeartbeats 4000000 in
set_option maxRecDepth 100000 in
theorem gunits_any (w : World) : Calls Tryz.prog 67 #[] w fun e w' => e = .returned (.slice (some ⟨w.heap.size, 0, none⟩) 21 21) ∧ w' = w.alloc (.cells unitC 116) := by
 go_enter Tryz.func67, Tryz.ntmps67
 go_wp2_with (refine wp_bs (.slice (some ⟨w.heap.size, 0, none⟩) 21 21) (w.alloc (.cells unitC 116)) (by kernel_rfl) ?_)
 go_ret
 exact ⟨rfl, rfl⟩
set_option maxRecDepth 100000 in
theorem unit_at {W : World} {b : Nat} (hb : W.heap[b]? = some (.cells unitC 116)) (i : Nat) (hi : i < 21) : W.cell? ⟨b, i * 6, none⟩ = some (.string (unitN.getD i ⟨#[]⟩)) ∧ W.cell? ⟨b, i * 6 + 1, none⟩ = some (.int .i64 ((measL.getD (i + 1) 0 : Nat) : Int)) := by
 simp only [World.cell?, hb]
 rcases i with _ | _ | _ | _ | _ | _ | _ | _ | _ | _ | _ | _ | _ | _ | _ | _ | _ | _ | _ | _ | _ | i
 ·exact ⟨rfl, rfl⟩
 ·exact ⟨rfl, rfl⟩
 ·exact ⟨rfl, rfl⟩
 ·exact ⟨rfl, rfl⟩
 ·exact ⟨rfl, rfl⟩
 ·exact ⟨rfl, rfl⟩
 ·exact ⟨rfl, rfl⟩
 ·exact ⟨rfl, rfl⟩
 ·exact ⟨rfl, rfl⟩
 ·exact ⟨rfl, rfl⟩
 ·exact ⟨rfl, rfl⟩
 ·exact ⟨rfl, rfl⟩
 ·exact ⟨rfl, rfl⟩
 ·exact ⟨rfl, rfl⟩
 ·exact ⟨rfl, rfl⟩
 ·exact ⟨rfl, rfl⟩
 ·exact ⟨rfl, rfl⟩
 ·exact ⟨rfl, rfl⟩
 ·exact ⟨rfl, rfl⟩
 ·exact ⟨rfl, rfl⟩
 ·exact ⟨rfl, rfl⟩
 ·omega
def nameU (u : Nat) : ByteArray := if isU u then unitN.getD (u - 1) ⟨#[]⟩ else ⟨#[]⟩
theorem nameU_empty (u : Nat) : (nameU u).toList.isEmpty = !(isU u) := by
 rw [empty_toList]
 unfold nameU isU
 by_cases h1 : 1 ≤ u
 ·by_cases h2 : u ≤ 21
  ·obtain ⟨k, rfl⟩ : ∃ k, u = k + 1 := ⟨u - 1, by omega⟩
   simp only [h1, h2, decide_true, Bool.and_self, if_true, Nat.add_sub_cancel]
   rcases k with _ | _ | _ | _ | _ | _ | _ | _ | _ | _ | _ | _ | _ | _ | _ | _ | _ | _ | _ | _ | _ | k
   ·rfl
   ·rfl
   ·rfl
   ·rfl
   ·rfl
   ·rfl
   ·rfl
   ·rfl
   ·rfl
   ·rfl
   ·rfl
   ·rfl
   ·rfl
   ·rfl
   ·rfl
   ·rfl
   ·rfl
   ·rfl
   ·rfl
   ·rfl
   ·rfl
   ·omega
  ·simp [h2, ByteArray.size]
 ·simp [h1, ByteArray.size]
set_option maxHeartbeats 2000000 in
set_option maxRecDepth 100000 in
theorem gname_any (u : Nat) (w : World) (hu : u < 256) : Calls Tryz.prog 66 #[.int .u8 (u : Nat)] w fun e w' => e = .returned (.string (nameU u)) ∧ Fr (fun _ => False) w w' := by
 have HU := hide (fun W => gunits_any W)
 have HUA := hide (fun (W : World) (b : Nat) => @unit_at W b)
 by_cases h1 : 1 ≤ u
 ·by_cases h2 : u ≤ 21
  ·obtain ⟨k, rfl⟩ : ∃ k, u = k + 1 := ⟨u - 1, by omega⟩
   have hwi : IntKind.i64.wrap ((k : Int) + 1) = (k : Int) + 1 := by rw [IntKind.wrap_i64]; omega
   have a1 : ¬ ((k : Int) + 1) < 1 := by omega
   have a2 : decide ((21 : Int) < (k : Int) + 1) = false := decide_eq_false (by omega)
   obtain ⟨nm, hnm⟩ : ∃ nm, unitN.getD k ⟨#[]⟩ = nm := ⟨_, rfl⟩
   have HNM := hide hnm
   clear hnm
   have HN := hide (show nameU (k + 1) = unitN.getD k ⟨#[]⟩ by unfold nameU isU; simp [h2])
   have a3 : IntKind.u8.wrap (k : Int) = (k : Int) := by rw [IntKind.wrap_u8]; omega
   have a4 : (k : Int) < 21 := by omega
   have hk : k < 21 := by omega
   clear h1 h2 hu
   go_enter Tryz.func66, Tryz.ntmps66
   go_wp2_with fail
   refine ((unhide HU) _).mono ?_
   rintro e w1 ⟨rfl, hw1⟩
   have F1 : Hid (Fr (fun _ => False) w w1) := by rw [hw1]; exact box1 w _
   clear hw1
   go_wp2_with fail
   refine ((unhide HU) _).mono ?_
   rintro e w2 ⟨rfl, hw2⟩
   have F2 : Hid (Fr (fun _ => False) w w2) := by rw [hw2]; exact (unhide F1).trans (box1 w1 _) (fun _ _ h => h)
   have hb2 : w2.heap[w1.heap.size]? = some (.cells unitC 116) := by rw [hw2]; exact Array.getElem?_push_size
   obtain ⟨c0, _⟩ := (unhide HUA) _ _ hb2 k hk
   rw [unhide HNM] at c0
   clear hw2 hb2
   go_wp2_with fail
   go_ret
   exact ⟨by rw [unhide HN, unhide HNM]; rfl, unhide F2⟩
  ·have hwi : IntKind.i64.wrap (u : Int) = (u : Int) := by rw [IntKind.wrap_i64]; omega
   have a1 : ¬ (u : Int) < 1 := by omega
   have a2 : decide ((21 : Int) < (u : Int)) = true := decide_eq_true (by omega)
   have HN := hide (show nameU u = ⟨#[]⟩ by unfold nameU isU; simp [h2])
   go_enter Tryz.func66, Tryz.ntmps66
   go_wp2_with fail
   refine ((unhide HU) _).mono ?_
   rintro e w1 ⟨rfl, hw1⟩
   have F1 : Hid (Fr (fun _ => False) w w1) := by rw [hw1]; exact box1 w _
   clear hw1
   go_wp2_with fail
   go_ret
   exact ⟨by rw [unhide HN]; rfl, unhide F1⟩
 ·obtain rfl : u = 0 := by omega
  go_enter Tryz.func66, Tryz.ntmps66
  go_wp2_with fail
  go_ret
  exact ⟨rfl, Fr.refl _ _⟩
set_option maxRecDepth 100000 in
theorem gis_any (x : Nat) (w : World) (hx : x < 4294967296) : Calls Tryz.prog 101 #[.int .u32 (x : Nat)] w fun e w' => e = .returned (.bool (decide (x % 2147483648 < 2139095040))) ∧ w' = w := by
 have hw : IntKind.u32.wrap ((x : Int) / 8388608) = ((x / 8388608 : Nat) : Int) := by rw [IntKind.wrap_u32]; omega
 have hb : bits .and .u32 ((x : Int) / 8388608) 255 = (x : Int) / 8388608 % 256 := by
  have h := u32_and_nat (x / 8388608) 255 (by omega) (by omega)
  rw [Nat.and_two_pow_sub_one_eq_mod (x / 8388608) 8] at h
  have e : ((x / 8388608 : Nat) : Int) = (x : Int) / 8388608 := by omega
  rw [e] at h
  refine h.trans ?_
  omega
 by_cases h : (x : Int) / 8388608 % 256 = 255
 ·rw [decide_eq_false (by omega)]
  go_enter Tryz.func101, Tryz.ntmps101
  go_wp2
  all_goals
   go_ret
   exact ⟨rfl, rfl⟩
 ·rw [decide_eq_true (by omega)]
  have h1 : ((x : Int) / 8388608 % 256 != 255) = true := by simp [h]
  go_enter Tryz.func101, Tryz.ntmps101
  go_wp2
  all_goals
   go_ret
   exact ⟨rfl, rfl⟩
def canV (x : Nat) : Nat × Nat := if x % 2147483648 < 2139095040 then (if x = 2147483648 then (0, 0) else (x, 0)) else (0, 14)
set_option maxRecDepth 100000 in
theorem gcanon_any (x : Nat) (w : World) (hx : x < 4294967296) : Calls Tryz.prog 88 #[.int .u32 (x : Nat)] w fun e w' => e = .returned (.tuple #[.int .u32 ((canV x).1 : Nat), .int .i64 ((canV x).2 : Nat)]) ∧ w' = w := by
 have HI := hide (gis_any x w hx)
 by_cases h1 : x % 2147483648 < 2139095040
 ·rw [decide_eq_true h1] at HI
  by_cases h2 : x = 2147483648
  ·subst h2
   have HV := hide (show canV 2147483648 = (0, 0) from rfl)
   go_enter Tryz.func88, Tryz.ntmps88
   go_wp2_with fail
   refine (unhide HI).mono ?_
   rintro e w1 ⟨rfl, hw⟩
   obtain rfl := hw.symm
   clear hw
   go_wp2_with fail
   go_ret2
   exact ⟨by rw [unhide HV]; rfl, rfl⟩
  ·have HV := hide (show canV x = (x, 0) by unfold canV; rw [if_pos h1, if_neg h2])
   have h3 : ¬ (x : Int) = 2147483648 := by omega
   clear h1 h2
   go_enter Tryz.func88, Tryz.ntmps88
   go_wp2_with fail
   refine (unhide HI).mono ?_
   rintro e w1 ⟨rfl, hw⟩
   obtain rfl := hw.symm
   clear hw
   go_wp2_with fail
   go_ret2
   exact ⟨by rw [unhide HV]; rfl, rfl⟩
 ·rw [decide_eq_false h1] at HI
  have HV := hide (show canV x = (0, 14) by unfold canV; rw [if_neg h1])
  clear h1
  go_enter Tryz.func88, Tryz.ntmps88
  go_wp2_with fail
  refine (unhide HI).mono ?_
  rintro e w1 ⟨rfl, hw⟩
  obtain rfl := hw.symm
  clear hw
  go_wp2_with fail
  go_ret2
  exact ⟨by rw [unhide HV]; rfl, rfl⟩
set_option maxHeartbeats 4000000 in
set_option maxRecDepth 100000 in
theorem gfield_any (n : ByteArray) (k : Nat) (t : ByteArray) (v u : Nat) (gone : Bool) (w : World) (hv : v < 4294967296) (hu : u < 256) :
  Calls Tryz.prog 64 #[.agg #[.string n, .int .u8 (k : Nat), .string t, .float .f32 v, .int .u8 (u : Nat)], .bool gone] w fun e w' => e = .returned (.bool (gfld gone ⟨n, k, t, v, u⟩)) ∧ Fr (fun _ => False) w w' := by
 have HC := hide (fun W => gcanon_any v W hv)
 have HN := hide (fun W => gname_any u W hu)
 have hbt : (w.alloc (.cells #[.string n, .int .u8 (k : Nat), .string t, .float .f32 v, .int .u8 (u : Nat)] 55)).cell? ⟨w.heap.size, 2, none⟩ = some (.string t) := by rw [World.cell?_alloc_at _ _ _ _ rfl]; rfl
 clear hv hu
 by_cases h1 : n.size < 1
 ·have h1i : (n.size : Int) < 1 := by omega
  have HV := hide (show gfld gone ⟨n, k, t, v, u⟩ = false by unfold gfld; simp only [h1, true_or, if_true])
  clear h1
  go_enter Tryz.func64, Tryz.ntmps64
  go_wp2_with fail
  go_ret
  exact ⟨congrArg (fun b => Ending.returned (.bool b)) (unhide HV).symm, box1 w _⟩
 ·have h1i : ¬ (n.size : Int) < 1 := by omega
  by_cases h2 : 64 < n.size
  ·have h2i : (64 : Int) < (n.size : Int) := by omega
   have HV := hide (show gfld gone ⟨n, k, t, v, u⟩ = false by unfold gfld; simp only [h2, or_true, if_true])
   clear h1 h2
   go_enter Tryz.func64, Tryz.ntmps64
   go_wp2_with fail
   go_ret
   exact ⟨congrArg (fun b => Ending.returned (.bool b)) (unhide HV).symm, box1 w _⟩
  ·have h2i : ¬ (64 : Int) < (n.size : Int) := by omega
   by_cases k1 : k = 1
   ·subst k1
    by_cases t1 : t.size ≤ 64
    ·have t1i : (t.size : Int) ≤ 64 := by omega
     by_cases v1 : v = 0
     ·by_cases u1 : u = 0
      ·have HV := hide (show gfld gone ⟨n, 1, t, v, u⟩ = true by unfold gfld; simp [h1, h2, t1, v1, u1])
       go_enter Tryz.func64, Tryz.ntmps64
       go_wp2_with fail
       refine (gbits_any _ _).mono ?_
       rintro e w1 ⟨rfl, hw⟩
       obtain rfl := hw.symm
       clear hw
       go_wp2_with fail
       go_ret
       exact ⟨congrArg (fun b => Ending.returned (.bool b)) (unhide HV).symm, box1 w _⟩
      ·have u1i : ((u : Int) == 0) = false := by rw [beq_eq_false_iff_ne]; omega
       have HV := hide (show gfld gone ⟨n, 1, t, v, u⟩ = false by unfold gfld; simp [h1, h2, t1, v1, u1])
       go_enter Tryz.func64, Tryz.ntmps64
       go_wp2_with fail
       refine (gbits_any _ _).mono ?_
       rintro e w1 ⟨rfl, hw⟩
       obtain rfl := hw.symm
       clear hw
       go_wp2_with fail
       go_ret
       exact ⟨congrArg (fun b => Ending.returned (.bool b)) (unhide HV).symm, box1 w _⟩
     ·have v1i : ¬ (v : Int) = 0 := by omega
      have HV := hide (show gfld gone ⟨n, 1, t, v, u⟩ = false by unfold gfld; simp [h1, h2, v1])
      go_enter Tryz.func64, Tryz.ntmps64
      go_wp2_with fail
      refine (gbits_any _ _).mono ?_
      rintro e w1 ⟨rfl, hw⟩
      obtain rfl := hw.symm
      clear hw
      go_wp2_with fail
      go_ret
      exact ⟨congrArg (fun b => Ending.returned (.bool b)) (unhide HV).symm, box1 w _⟩
    ·have t1i : ¬ (t.size : Int) ≤ 64 := by omega
     have HV := hide (show gfld gone ⟨n, 1, t, v, u⟩ = false by unfold gfld; simp [h1, h2, t1])
     go_enter Tryz.func64, Tryz.ntmps64
     go_wp2_with fail
     go_ret
     exact ⟨congrArg (fun b => Ending.returned (.bool b)) (unhide HV).symm, box1 w _⟩
   ·have k1i : ¬ (k : Int) = 1 := by omega
    by_cases k2 : k = 2
    ·subst k2
     by_cases c1 : v % 2147483648 < 2139095040
     ·by_cases c2 : v = 2147483648
      ·subst c2
       have e1 : canV 2147483648 = (0, 0) := rfl
       rw [e1] at HC
       clear c1
       have HV := hide (show gfld gone ⟨n, 2, t, 2147483648, u⟩ = false by unfold gfld; simp [h1, h2, canB])
       go_enter Tryz.func64, Tryz.ntmps64
       go_wp2_with fail
       refine (gbits_any _ _).mono ?_
       rintro e w1 ⟨rfl, hw⟩
       obtain rfl := hw.symm
       clear hw
       go_wp2_with fail
       refine ((unhide HC) _).mono ?_
       rintro e w1 ⟨rfl, hw⟩
       obtain rfl := hw.symm
       clear hw
       go_wp2_with fail
       refine (gbits_any _ _).mono ?_
       rintro e w1 ⟨rfl, hw⟩
       obtain rfl := hw.symm
       clear hw
       go_wp2_with fail
       go_ret
       exact ⟨congrArg (fun b => Ending.returned (.bool b)) (unhide HV).symm, box1 w _⟩
      ·have e1 : canV v = (v, 0) := by unfold canV; rw [if_pos c1, if_neg c2]
       rw [e1] at HC
       by_cases u1 : isU u = true
       ·have hu1 : 1 ≤ u ∧ u ≤ 21 := by simpa [isU] using u1
        have hne := nameU_empty u
        rw [u1] at hne
        simp only [Bool.not_true] at hne
        by_cases t1 : t.toList.isEmpty = true
        ·have HV := hide (show gfld gone ⟨n, 2, t, v, u⟩ = true by unfold gfld; simp [h1, h2, canB, c1, c2, hu1, t1])
         go_enter Tryz.func64, Tryz.ntmps64
         go_wp2_with fail
         refine (gbits_any _ _).mono ?_
         rintro e w1 ⟨rfl, hw⟩
         obtain rfl := hw.symm
         clear hw
         go_wp2_with fail
         refine ((unhide HC) _).mono ?_
         rintro e w1 ⟨rfl, hw⟩
         obtain rfl := hw.symm
         clear hw
         go_wp2_with fail
         refine (gbits_any _ _).mono ?_
         rintro e w1 ⟨rfl, hw⟩
         obtain rfl := hw.symm
         clear hw
         go_wp2_with fail
         refine ((unhide HN) _).mono ?_
         rintro e w2 ⟨rfl, hf2⟩
         have t2 := (hf2.cell (p := ⟨w.heap.size, 2, none⟩) (by simp) (fun h => h)).trans hbt
         have F2 := hide ((box1 w _).trans hf2 (fun _ _ h => h))
         clear hf2
         go_wp2_with fail
         go_ret
         exact ⟨congrArg (fun b => Ending.returned (.bool b)) (unhide HV).symm, (unhide F2)⟩
        ·have HV := hide (show gfld gone ⟨n, 2, t, v, u⟩ = false by unfold gfld; simp [h1, h2, canB, c1, c2, hu1, t1])
         go_enter Tryz.func64, Tryz.ntmps64
         go_wp2_with fail
         refine (gbits_any _ _).mono ?_
         rintro e w1 ⟨rfl, hw⟩
         obtain rfl := hw.symm
         clear hw
         go_wp2_with fail
         refine ((unhide HC) _).mono ?_
         rintro e w1 ⟨rfl, hw⟩
         obtain rfl := hw.symm
         clear hw
         go_wp2_with fail
         refine (gbits_any _ _).mono ?_
         rintro e w1 ⟨rfl, hw⟩
         obtain rfl := hw.symm
         clear hw
         go_wp2_with fail
         refine ((unhide HN) _).mono ?_
         rintro e w2 ⟨rfl, hf2⟩
         have t2 := (hf2.cell (p := ⟨w.heap.size, 2, none⟩) (by simp) (fun h => h)).trans hbt
         have F2 := hide ((box1 w _).trans hf2 (fun _ _ h => h))
         clear hf2
         go_wp2_with fail
         go_ret
         exact ⟨congrArg (fun b => Ending.returned (.bool b)) (unhide HV).symm, (unhide F2)⟩
       ·have hu1 : ¬ (1 ≤ u ∧ u ≤ 21) := by simpa [isU] using u1
        have hne := nameU_empty u
        rw [show isU u = false by simpa using u1] at hne
        simp only [Bool.not_false] at hne
        have HV := hide (show gfld gone ⟨n, 2, t, v, u⟩ = false by unfold gfld; simp [h1, h2, canB, c1, c2, hu1])
        go_enter Tryz.func64, Tryz.ntmps64
        go_wp2_with fail
        refine (gbits_any _ _).mono ?_
        rintro e w1 ⟨rfl, hw⟩
        obtain rfl := hw.symm
        clear hw
        go_wp2_with fail
        refine ((unhide HC) _).mono ?_
        rintro e w1 ⟨rfl, hw⟩
        obtain rfl := hw.symm
        clear hw
        go_wp2_with fail
        refine (gbits_any _ _).mono ?_
        rintro e w1 ⟨rfl, hw⟩
        obtain rfl := hw.symm
        clear hw
        go_wp2_with fail
        refine ((unhide HN) _).mono ?_
        rintro e w2 ⟨rfl, hf2⟩
        have t2 := (hf2.cell (p := ⟨w.heap.size, 2, none⟩) (by simp) (fun h => h)).trans hbt
        have F2 := hide ((box1 w _).trans hf2 (fun _ _ h => h))
        clear hf2
        go_wp2_with fail
        go_ret
        exact ⟨congrArg (fun b => Ending.returned (.bool b)) (unhide HV).symm, (unhide F2)⟩
     ·have e1 : canV v = (0, 14) := by unfold canV; rw [if_neg c1]
      rw [e1] at HC
      have HV := hide (show gfld gone ⟨n, 2, t, v, u⟩ = false by unfold gfld; simp [h1, h2, canB, c1])
      go_enter Tryz.func64, Tryz.ntmps64
      go_wp2_with fail
      refine (gbits_any _ _).mono ?_
      rintro e w1 ⟨rfl, hw⟩
      obtain rfl := hw.symm
      clear hw
      go_wp2_with fail
      refine ((unhide HC) _).mono ?_
      rintro e w1 ⟨rfl, hw⟩
      obtain rfl := hw.symm
      clear hw
      go_wp2_with fail
      go_ret
      exact ⟨congrArg (fun b => Ending.returned (.bool b)) (unhide HV).symm, box1 w _⟩
    ·have k2i : ¬ (k : Int) = 2 := by omega
     by_cases k3 : k = 3
     ·subst k3
      by_cases g1 : gone = true
      ·subst g1
       by_cases t1 : t.toList.isEmpty = true
       ·by_cases v1 : v = 0
        ·by_cases u1 : u = 0
         ·have HV := hide (show gfld true ⟨n, 3, t, v, u⟩ = true by unfold gfld; simp [h1, h2, t1, v1, u1])
          go_enter Tryz.func64, Tryz.ntmps64
          go_wp2_with fail
          refine (gbits_any _ _).mono ?_
          rintro e w1 ⟨rfl, hw⟩
          obtain rfl := hw.symm
          clear hw
          go_wp2_with fail
          go_ret
          exact ⟨congrArg (fun b => Ending.returned (.bool b)) (unhide HV).symm, box1 w _⟩
         ·have u1i : ((u : Int) == 0) = false := by rw [beq_eq_false_iff_ne]; omega
          have HV := hide (show gfld true ⟨n, 3, t, v, u⟩ = false by unfold gfld; simp [h1, h2, t1, v1, u1])
          go_enter Tryz.func64, Tryz.ntmps64
          go_wp2_with fail
          refine (gbits_any _ _).mono ?_
          rintro e w1 ⟨rfl, hw⟩
          obtain rfl := hw.symm
          clear hw
          go_wp2_with fail
          go_ret
          exact ⟨congrArg (fun b => Ending.returned (.bool b)) (unhide HV).symm, box1 w _⟩
        ·have v1i : ¬ (v : Int) = 0 := by omega
         have HV := hide (show gfld true ⟨n, 3, t, v, u⟩ = false by unfold gfld; simp [h1, h2, v1])
         go_enter Tryz.func64, Tryz.ntmps64
         go_wp2_with fail
         refine (gbits_any _ _).mono ?_
         rintro e w1 ⟨rfl, hw⟩
         obtain rfl := hw.symm
         clear hw
         go_wp2_with fail
         go_ret
         exact ⟨congrArg (fun b => Ending.returned (.bool b)) (unhide HV).symm, box1 w _⟩
       ·have HV := hide (show gfld true ⟨n, 3, t, v, u⟩ = false by unfold gfld; simp [h1, h2, t1])
        go_enter Tryz.func64, Tryz.ntmps64
        go_wp2_with fail
        go_ret
        exact ⟨congrArg (fun b => Ending.returned (.bool b)) (unhide HV).symm, box1 w _⟩
      ·obtain rfl : gone = false := by simpa using g1
       have HV := hide (show gfld false ⟨n, 3, t, v, u⟩ = false by unfold gfld; simp [h1, h2])
       go_enter Tryz.func64, Tryz.ntmps64
       go_wp2_with fail
       go_ret
       exact ⟨congrArg (fun b => Ending.returned (.bool b)) (unhide HV).symm, box1 w _⟩
     ·have k3i : ¬ (k : Int) = 3 := by omega
      have HV := hide (show gfld gone ⟨n, k, t, v, u⟩ = false by unfold gfld; simp [h1, h2, k1, k2, k3])
      go_enter Tryz.func64, Tryz.ntmps64
      go_wp2_with fail
      go_ret
      exact ⟨congrArg (fun b => Ending.returned (.bool b)) (unhide HV).symm, box1 w _⟩
def gat (gone : Bool) (l : List F5) : Nat → Bool
 | 0 => gfds gone l
 | j + 1 => match l[j]? with
  | some f => gris gone f.n (l.drop (j + 1))
  | none => true
theorem gat_step (gone : Bool) (l : List F5) (j : Nat) (hj : j < l.length) : gat gone l j = (gfld gone l[j] && (if _h : j = 0 then true else Op.bytesLess (l[j - 1]'(by omega)).n.toList l[j].n.toList) && gat gone l (j + 1)) := by
 have hd : l.drop j = l[j] :: l.drop (j + 1) := List.drop_eq_getElem_cons hj
 rcases j with _ | j
 ·cases l with
  | nil => simp at hj
  | cons f r => simp [gat, gfds]
 ·have hj' : j < l.length := by omega
  simp only [gat, List.getElem?_eq_getElem hj', List.getElem?_eq_getElem hj]
  rw [hd]
  simp [gris]
theorem gat_end (gone : Bool) (l : List F5) : gat gone l l.length = true := by
 rcases e : l.length with _ | j
 ·obtain rfl := List.length_eq_zero_iff.1 e
  rfl
 ·simp only [gat]
  rw [List.getElem?_eq_getElem (by omega), show l.drop (j + 1) = [] by rw [List.drop_eq_nil_iff]; omega]
  rfl
set_option maxHeartbeats 2000000 in
set_option maxRecDepth 100000 in
theorem gfields_any (x : Value) (l : List F5) (gone : Bool) (w : World) (hx : Fds w x l) (hl : l.length ≤ 140737488355328) (hv : ∀ f ∈ l, f.v < 4294967296 ∧ f.u < 256) :
  Calls Tryz.prog 40 #[x, .bool gone] w fun e w' => e = .returned (.bool (fdsB l gone)) ∧ Fr (fun _ => False) w w' := by
 have HX := hide (And.intro hx hv)
 obtain ⟨xo, xc, rfl⟩ := hx.form
 clear hx hv
 go_enter Tryz.func40, Tryz.ntmps40
 go_wp2_with fail
 go_loopw [5] (fun iv wr => ∃ j : Nat, j ≤ l.length ∧ iv = .int .i64 (j : Nat) ∧ gfds gone l = gat gone l j ∧ Fr (fun _ => False) w wr) (fun iv _ => l.length - (intOf iv).toNat)
 case atStart => exact ⟨0, Nat.zero_le _, rfl, rfl, Fr.refl _ _⟩
 case round =>
  obtain ⟨j, hj, rfl, hG, hf⟩ := hrel
  by_cases hlt : j < l.length
  ·obtain ⟨g, o, rfl, c0, c1, c2, c3, c4⟩ := ((unhide HX).1.fr hf).at_ j hlt
   have hvu := (unhide HX).2 l[j] (List.getElem_mem hlt)
   obtain ⟨⟨n, k, t, v, u⟩, hfe⟩ : ∃ f, l[j] = f := ⟨_, rfl⟩
   rw [hfe] at c0 c1 c2 c3 c4 hvu
   simp only at c0 c1 c2 c3 c4 hvu
   have HR := hide (And.intro hG hf)
   have HFl := hide (fun W => gfield_any n k t v u gone W hvu.1 hvu.2)
   have hkl : (j : Int) < (l.length : Int) := by omega
   have hgl : g < wr.heap.size := lt_of_cell c0
   have hS0 : ∀ W, Fr (fun _ => False) wr W → W.cell? ⟨g, o + j * 5, none⟩ = some (.string n) ∧ W.cell? ⟨g, o + j * 5 + 1, none⟩ = some (.int .u8 (k : Nat)) ∧ W.cell? ⟨g, o + j * 5 + 2, none⟩ = some (.string t) ∧ W.cell? ⟨g, o + j * 5 + 3, none⟩ = some (.float .f32 v) ∧ W.cell? ⟨g, o + j * 5 + 4, none⟩ = some (.int .u8 (u : Nat)) := fun W hW => ⟨(hW.cell (p := ⟨g, _, none⟩) hgl (fun h => h)).trans c0, (hW.cell (p := ⟨g, _, none⟩) hgl (fun h => h)).trans c1, (hW.cell (p := ⟨g, _, none⟩) hgl (fun h => h)).trans c2, (hW.cell (p := ⟨g, _, none⟩) hgl (fun h => h)).trans c3, (hW.cell (p := ⟨g, _, none⟩) hgl (fun h => h)).trans c4⟩
   cases hgf : gfld gone ⟨n, k, t, v, u⟩ with
   | false =>
    clear hG hf hvu
    have HQ := hide (show gat gone l j = false by rw [gat_step gone l j hlt, hfe, hgf]; rfl)
    have HS0 := hide hS0
    rw [hgf] at HFl
    clear hgf hfe hS0
    go_wp2_with fail
    refine wp_region_noPanic ?_
    refine wp_region_held_drew (S := (fun W => W.cell? ⟨g, o + j * 5, none⟩ = some (.string n) ∧ W.cell? ⟨g, o + j * 5 + 1, none⟩ = some (.int .u8 (k : Nat)) ∧ W.cell? ⟨g, o + j * 5 + 2, none⟩ = some (.string t) ∧ W.cell? ⟨g, o + j * 5 + 3, none⟩ = some (.float .f32 v) ∧ W.cell? ⟨g, o + j * 5 + 4, none⟩ = some (.int .u8 (u : Nat)))) (by kernel_rfl) ((unhide HS0) _ (Fr.refl _ _).drew) (fun hHeld => ?_)
    refine wtk2 (i := 0) rfl hHeld ?_
    (try simp only [Act.put, nrm])
    refine wtk2 (i := 1) rfl hHeld ?_
    (try simp only [Act.put, nrm])
    refine wtk2 (i := 2) rfl hHeld ?_
    (try simp only [Act.put, nrm])
    refine wtk2 (i := 3) rfl hHeld ?_
    (try simp only [Act.put, nrm])
    refine wtk2 (i := 4) rfl hHeld ?_
    (try simp only [Act.put, nrm])
    refine wpAnyH_ready (rs := [5]) (by kernel_rfl) (by simp) (AllReadyH.cons rfl (fun K hK => ?_) AllReadyH.nil)
    go_simp
    refine ((unhide HFl) _).mono ?_
    rintro e w2 ⟨rfl, hf2⟩
    have F2 := hide ((Fr.refl (fun _ => False) wr).drew.trans hf2 (fun _ _ h => h))
    clear hf2
    go_simp
    refine hK.out _ _ ((unhide HS0) _ (unhide F2)) (fun hHeld => ?_)
    clear hK K
    (try simp only [Act.put, nrm])
    refine wtk2 (i := 6) rfl hHeld ?_
    (try simp only [Act.put, nrm])
    refine wtk2 (i := 7) rfl hHeld ?_
    (try simp only [Act.put, nrm])
    refine wpAnyH_take (i := 8) (v := undef) rfl (by kernel_rfl) (by kernel_rfl) (by kernel_rfl) (fun _ _ _ h => h) (Or.inr ⟨by rfl, rfl⟩) hHeld ?_
    (try simp only [Act.put, nrm])
    refine wpAnyH_take (i := 9) (v := undef) rfl (by kernel_rfl) (by kernel_rfl) (by kernel_rfl) (fun _ _ _ h => h) (Or.inr ⟨by rfl, rfl⟩) hHeld ?_
    (try simp only [Act.put, nrm])
    refine wpAnyH_take (i := 10) (v := undef) rfl (by kernel_rfl) (by kernel_rfl) (by kernel_rfl) (fun _ _ _ h => h) (Or.inr ⟨by rfl, rfl⟩) hHeld ?_
    (try simp only [Act.put, nrm])
    refine wpAnyH_take (i := 11) (v := undef) rfl (by kernel_rfl) (by kernel_rfl) (by kernel_rfl) (fun _ _ _ h => h) (Or.inr ⟨by rfl, rfl⟩) hHeld ?_
    (try simp only [Act.put, nrm])
    refine wpAnyH_take (i := 12) (v := undef) rfl (by kernel_rfl) (by kernel_rfl) (by kernel_rfl) (fun _ _ _ h => h) (Or.inr ⟨by rfl, rfl⟩) hHeld ?_
    (try simp only [Act.put, nrm])
    refine wpAnyH_take (i := 13) (v := undef) rfl (by kernel_rfl) (by kernel_rfl) (by kernel_rfl) (fun _ _ _ h => h) (Or.inr ⟨by rfl, rfl⟩) hHeld ?_
    (try simp only [Act.put, nrm])
    refine wpAnyH_take (i := 14) (v := undef) rfl (by kernel_rfl) (by kernel_rfl) (by kernel_rfl) (fun _ _ _ h => h) (Or.inr ⟨by rfl, rfl⟩) hHeld ?_
    (try simp only [Act.put, nrm])
    refine wpAnyH_take (i := 15) (v := undef) rfl (by kernel_rfl) (by kernel_rfl) (by kernel_rfl) (fun _ _ _ h => h) (Or.inr ⟨by rfl, rfl⟩) hHeld ?_
    (try simp only [Act.put, nrm])
    refine wpAnyH_take (i := 16) (v := undef) rfl (by kernel_rfl) (by kernel_rfl) (by kernel_rfl) (fun _ _ _ h => h) (Or.inr ⟨by rfl, rfl⟩) hHeld ?_
    (try simp only [Act.put, nrm])
    refine wpAnyH_take (i := 17) (v := undef) rfl (by kernel_rfl) (by kernel_rfl) (by kernel_rfl) (fun _ _ _ h => h) (Or.inr ⟨by rfl, rfl⟩) hHeld ?_
    (try simp only [Act.put, nrm])
    refine wpAnyH_take (i := 18) (v := undef) rfl (by kernel_rfl) (by kernel_rfl) (by kernel_rfl) (fun _ _ _ h => h) (Or.inr ⟨by rfl, rfl⟩) hHeld ?_
    (try simp only [Act.put, nrm])
    refine wpAnyH_take (i := 19) (v := undef) rfl (by kernel_rfl) (by kernel_rfl) (by kernel_rfl) (fun _ _ _ h => h) (Or.inr ⟨by rfl, rfl⟩) hHeld ?_
    (try simp only [Act.put, nrm])
    refine wpAnyH_take (i := 20) (v := undef) rfl (by kernel_rfl) (by kernel_rfl) (by kernel_rfl) (fun _ _ _ h => h) (Or.inr ⟨by rfl, rfl⟩) hHeld ?_
    (try simp only [Act.put, nrm])
    refine wpAnyH_take (i := 21) (v := undef) rfl (by kernel_rfl) (by kernel_rfl) (by kernel_rfl) (fun _ _ _ h => h) (Or.inr ⟨by rfl, rfl⟩) hHeld ?_
    (try simp only [Act.put, nrm])
    refine wpAnyH_take (i := 22) (v := undef) rfl (by kernel_rfl) (by kernel_rfl) (by kernel_rfl) (fun _ _ _ h => h) (Or.inr ⟨by rfl, rfl⟩) hHeld ?_
    (try simp only [Act.put, nrm])
    refine wpAnyH_take (i := 23) (v := undef) rfl (by kernel_rfl) (by kernel_rfl) (by kernel_rfl) (fun _ _ _ h => h) (Or.inr ⟨by rfl, rfl⟩) hHeld ?_
    (try simp only [Act.put, nrm])
    refine wpAnyH_take (i := 24) (v := undef) rfl (by kernel_rfl) (by kernel_rfl) (by kernel_rfl) (fun _ _ _ h => h) (Or.inr ⟨by rfl, rfl⟩) hHeld ?_
    (try simp only [Act.put, nrm])
    refine wtk2 (i := 25) rfl hHeld ?_
    (try simp only [Act.put, nrm])
    refine wpAnyH_done (by kernel_rfl) ?_ _
    refine NoPanic.normal ?_
    clear HFl HS0
    go_wp2_with fail
    go_ret
    have hv0 : fdsB l gone = false := by rw [← gfds_eq, (unhide HR).1, unhide HQ]; rfl
    exact ⟨congrArg (fun b => Ending.returned (.bool b)) hv0.symm, (unhide HR).2.trans (unhide F2) (fun _ _ h => h)⟩
   | true =>
    by_cases hj0 : j = 0
    ·clear hG hf hvu
     have HQ := hide (show gat gone l j = gat gone l (j + 1) by rw [gat_step gone l j hlt, hfe, hgf, dif_pos hj0]; simp)
     have j1 : decide ((0 : Int) < (j : Int)) = false := decide_eq_false (by omega)
     have j2 : decide (0 < j) = false := decide_eq_false (by omega)
     have j3 : ¬ 0 < j := by omega
     clear hj0
     have HS0 := hide hS0
     rw [hgf] at HFl
     clear hgf hfe hS0
     go_wp2_with fail
     refine wp_region_noPanic ?_
     refine wp_region_held_drew (S := (fun W => W.cell? ⟨g, o + j * 5, none⟩ = some (.string n) ∧ W.cell? ⟨g, o + j * 5 + 1, none⟩ = some (.int .u8 (k : Nat)) ∧ W.cell? ⟨g, o + j * 5 + 2, none⟩ = some (.string t) ∧ W.cell? ⟨g, o + j * 5 + 3, none⟩ = some (.float .f32 v) ∧ W.cell? ⟨g, o + j * 5 + 4, none⟩ = some (.int .u8 (u : Nat)))) (by kernel_rfl) ((unhide HS0) _ (Fr.refl _ _).drew) (fun hHeld => ?_)
     refine wtk2 (i := 0) rfl hHeld ?_
     (try simp only [Act.put, nrm])
     refine wtk2 (i := 1) rfl hHeld ?_
     (try simp only [Act.put, nrm])
     refine wtk2 (i := 2) rfl hHeld ?_
     (try simp only [Act.put, nrm])
     refine wtk2 (i := 3) rfl hHeld ?_
     (try simp only [Act.put, nrm])
     refine wtk2 (i := 4) rfl hHeld ?_
     (try simp only [Act.put, nrm])
     refine wpAnyH_ready (rs := [5]) (by kernel_rfl) (by simp) (AllReadyH.cons rfl (fun K hK => ?_) AllReadyH.nil)
     go_simp
     refine ((unhide HFl) _).mono ?_
     rintro e w2 ⟨rfl, hf2⟩
     have F2 := hide ((Fr.refl (fun _ => False) wr).drew.trans hf2 (fun _ _ h => h))
     clear hf2
     go_simp
     refine hK.out _ _ ((unhide HS0) _ (unhide F2)) (fun hHeld => ?_)
     clear hK K
     (try simp only [Act.put, nrm])
     refine wtk2 (i := 6) rfl hHeld ?_
     (try simp only [Act.put, nrm])
     refine wtk2 (i := 7) rfl hHeld ?_
     (try simp only [Act.put, nrm])
     refine wtk2 (i := 8) rfl hHeld ?_
     (try simp only [Act.put, nrm])
     refine wtk2 (i := 9) rfl hHeld ?_
     (try simp only [Act.put, nrm])
     refine wtk2 (i := 10) rfl hHeld ?_
     (try simp only [Act.put, nrm])
     refine wpAnyH_take (i := 11) (v := undef) rfl (by kernel_rfl) (by kernel_rfl) (by kernel_rfl) (fun _ _ _ h => h) (Or.inr ⟨by rfl, rfl⟩) hHeld ?_
     (try simp only [Act.put, nrm])
     refine wpAnyH_take (i := 12) (v := undef) rfl (by kernel_rfl) (by kernel_rfl) (by kernel_rfl) (fun _ _ _ h => h) (Or.inr ⟨by rfl, rfl⟩) hHeld ?_
     (try simp only [Act.put, nrm])
     refine wpAnyH_take (i := 13) (v := undef) rfl (by kernel_rfl) (by kernel_rfl) (by kernel_rfl) (fun _ _ _ h => h) (Or.inr ⟨by rfl, rfl⟩) hHeld ?_
     (try simp only [Act.put, nrm])
     refine wpAnyH_take (i := 14) (v := undef) rfl (by kernel_rfl) (by kernel_rfl) (by kernel_rfl) (fun _ _ _ h => h) (Or.inr ⟨by rfl, rfl⟩) hHeld ?_
     (try simp only [Act.put, nrm])
     refine wpAnyH_take (i := 15) (v := undef) rfl (by kernel_rfl) (by kernel_rfl) (by kernel_rfl) (fun _ _ _ h => h) (Or.inr ⟨by rfl, rfl⟩) hHeld ?_
     (try simp only [Act.put, nrm])
     refine wpAnyH_take (i := 16) (v := undef) rfl (by kernel_rfl) (by kernel_rfl) (by kernel_rfl) (fun _ _ _ h => h) (Or.inr ⟨by rfl, rfl⟩) hHeld ?_
     (try simp only [Act.put, nrm])
     refine wpAnyH_take (i := 17) (v := undef) rfl (by kernel_rfl) (by kernel_rfl) (by kernel_rfl) (fun _ _ _ h => h) (Or.inr ⟨by rfl, rfl⟩) hHeld ?_
     (try simp only [Act.put, nrm])
     refine wpAnyH_take (i := 18) (v := undef) rfl (by kernel_rfl) (by kernel_rfl) (by kernel_rfl) (fun _ _ _ h => h) (Or.inr ⟨by rfl, rfl⟩) hHeld ?_
     (try simp only [Act.put, nrm])
     refine wpAnyH_take (i := 19) (v := undef) rfl (by kernel_rfl) (by kernel_rfl) (by kernel_rfl) (fun _ _ _ h => h) (Or.inr ⟨by rfl, rfl⟩) hHeld ?_
     (try simp only [Act.put, nrm])
     refine wpAnyH_take (i := 20) (v := undef) rfl (by kernel_rfl) (by kernel_rfl) (by kernel_rfl) (fun _ _ _ h => h) (Or.inr ⟨by rfl, rfl⟩) hHeld ?_
     (try simp only [Act.put, nrm])
     refine wpAnyH_take (i := 21) (v := undef) rfl (by kernel_rfl) (by kernel_rfl) (by kernel_rfl) (fun _ _ _ h => h) (Or.inr ⟨by rfl, rfl⟩) hHeld ?_
     (try simp only [Act.put, nrm])
     refine wpAnyH_take (i := 22) (v := undef) rfl (by kernel_rfl) (by kernel_rfl) (by kernel_rfl) (fun _ _ _ h => h) (Or.inr ⟨by rfl, rfl⟩) hHeld ?_
     (try simp only [Act.put, nrm])
     refine wpAnyH_take (i := 23) (v := undef) rfl (by kernel_rfl) (by kernel_rfl) (by kernel_rfl) (fun _ _ _ h => h) (Or.inr ⟨by rfl, rfl⟩) hHeld ?_
     (try simp only [Act.put, nrm])
     refine wtk2 (i := 24) rfl hHeld ?_
     (try simp only [Act.put, nrm])
     refine wtk2 (i := 25) rfl hHeld ?_
     (try simp only [Act.put, nrm])
     refine wpAnyH_done (by kernel_rfl) ?_ _
     refine NoPanic.normal ?_
     clear HFl HS0
     go_wp2_with fail
     go_roundw
     case rel => exact ⟨j + 1, hlt, by go_num, by rw [(unhide HR).1, unhide HQ], (unhide HR).2.trans (unhide F2) (fun _ _ h => h)⟩
     case measure => simp [intOf]; omega
    ·obtain ⟨i, he⟩ : ∃ i, j - 1 = i := ⟨_, rfl⟩
     have hil : i < l.length := by omega
     obtain ⟨g', o', e', p0, _⟩ := ((unhide HX).1.fr hf).at_ i hil
     cases e'
     obtain ⟨p, hp⟩ : ∃ p, l[i].n = p := ⟨_, rfl⟩
     rw [hp] at p0
     have hS1 : ∀ W, Fr (fun _ => False) wr W → (W.cell? ⟨g, o + j * 5, none⟩ = some (.string n) ∧ W.cell? ⟨g, o + j * 5 + 1, none⟩ = some (.int .u8 (k : Nat)) ∧ W.cell? ⟨g, o + j * 5 + 2, none⟩ = some (.string t) ∧ W.cell? ⟨g, o + j * 5 + 3, none⟩ = some (.float .f32 v) ∧ W.cell? ⟨g, o + j * 5 + 4, none⟩ = some (.int .u8 (u : Nat))) ∧ W.cell? ⟨g, o + i * 5, none⟩ = some (.string p) := fun W hW => ⟨hS0 W hW, (hW.cell (p := ⟨g, _, none⟩) hgl (fun h => h)).trans p0⟩
     have hji : (j : Int) - 1 = (i : Int) := by omega
     have hwi : IntKind.i64.wrap (i : Int) = (i : Int) := by rw [IntKind.wrap_i64]; omega
     have hil2 : (i : Int) < (l.length : Int) := by omega
     have hj1 : (0 : Int) < (j : Int) := by omega
     have hj2 : 0 < j := by omega
     have hj3 : decide (0 < j) = true := decide_eq_true hj2
     have hj4 : decide ((0 : Int) < (j : Int)) = true := decide_eq_true hj1
     clear hG hf hvu hS0
     cases hb : Op.bytesLess p.toList n.toList with
     | false =>
      have HQ := hide (show gat gone l j = false by rw [gat_step gone l j hlt, hfe, hgf, dif_neg hj0]; simp only [he]; rw [hp, hb]; simp)
      have HS1 := hide hS1
      rw [hgf] at HFl
      clear hgf hfe hS1 hp
      go_wp2_with fail
      refine wp_region_noPanic ?_
      refine wp_region_held_drew (S := (fun W => (W.cell? ⟨g, o + j * 5, none⟩ = some (.string n) ∧ W.cell? ⟨g, o + j * 5 + 1, none⟩ = some (.int .u8 (k : Nat)) ∧ W.cell? ⟨g, o + j * 5 + 2, none⟩ = some (.string t) ∧ W.cell? ⟨g, o + j * 5 + 3, none⟩ = some (.float .f32 v) ∧ W.cell? ⟨g, o + j * 5 + 4, none⟩ = some (.int .u8 (u : Nat))) ∧ W.cell? ⟨g, o + i * 5, none⟩ = some (.string p))) (by kernel_rfl) ((unhide HS1) _ (Fr.refl _ _).drew) (fun hHeld => ?_)
      refine wtk2 (i := 0) rfl hHeld ?_
      (try simp only [Act.put, nrm])
      refine wtk2 (i := 1) rfl hHeld ?_
      (try simp only [Act.put, nrm])
      refine wtk2 (i := 2) rfl hHeld ?_
      (try simp only [Act.put, nrm])
      refine wtk2 (i := 3) rfl hHeld ?_
      (try simp only [Act.put, nrm])
      refine wtk2 (i := 4) rfl hHeld ?_
      (try simp only [Act.put, nrm])
      refine wpAnyH_ready (rs := [5]) (by kernel_rfl) (by simp) (AllReadyH.cons rfl (fun K hK => ?_) AllReadyH.nil)
      go_simp
      refine ((unhide HFl) _).mono ?_
      rintro e w2 ⟨rfl, hf2⟩
      have F2 := hide ((Fr.refl (fun _ => False) wr).drew.trans hf2 (fun _ _ h => h))
      clear hf2
      go_simp
      refine hK.out _ _ ((unhide HS1) _ (unhide F2)) (fun hHeld => ?_)
      clear hK K
      (try simp only [Act.put, nrm])
      refine wtk2 (i := 6) rfl hHeld ?_
      (try simp only [Act.put, nrm])
      refine wtk2 (i := 7) rfl hHeld ?_
      (try simp only [Act.put, nrm])
      refine wtk2 (i := 8) rfl hHeld ?_
      (try simp only [Act.put, nrm])
      refine wtk2 (i := 9) rfl hHeld ?_
      (try simp only [Act.put, nrm])
      refine wtk2 (i := 10) rfl hHeld ?_
      (try simp only [Act.put, nrm])
      refine wtk2 (i := 11) rfl hHeld ?_
      (try simp only [Act.put, nrm])
      refine wtk2 (i := 12) rfl hHeld ?_
      (try simp only [Act.put, nrm])
      refine wtk2 (i := 13) rfl hHeld ?_
      (try simp only [Act.put, nrm])
      refine wtk2 (i := 14) rfl hHeld ?_
      (try simp only [Act.put, nrm])
      refine wtk2 (i := 15) rfl hHeld ?_
      (try simp only [Act.put, nrm])
      refine wtk2 (i := 16) rfl hHeld ?_
      (try simp only [Act.put, nrm])
      refine wtk2 (i := 17) rfl hHeld ?_
      (try simp only [Act.put, nrm])
      refine wtk2 (i := 18) rfl hHeld ?_
      (try simp only [Act.put, nrm])
      refine wtk2 (i := 19) rfl hHeld ?_
      (try simp only [Act.put, nrm])
      refine wtk2 (i := 20) rfl hHeld ?_
      (try simp only [Act.put, nrm])
      refine wtk2 (i := 21) rfl hHeld ?_
      (try simp only [Act.put, nrm])
      refine wtk2 (i := 22) rfl hHeld ?_
      (try simp only [Act.put, nrm])
      refine wtk2 (i := 23) rfl hHeld ?_
      (try simp only [Act.put, nrm])
      refine wtk2 (i := 24) rfl hHeld ?_
      (try simp only [Act.put, nrm])
      refine wtk2 (i := 25) rfl hHeld ?_
      (try simp only [Act.put, nrm])
      refine wpAnyH_done (by kernel_rfl) ?_ _
      refine NoPanic.normal ?_
      clear HFl HS1
      go_wp2_with fail
      go_ret
      have hv0 : fdsB l gone = false := by rw [← gfds_eq, (unhide HR).1, unhide HQ]; rfl
      exact ⟨congrArg (fun b => Ending.returned (.bool b)) hv0.symm, (unhide HR).2.trans (unhide F2) (fun _ _ h => h)⟩
     | true =>
      have HQ := hide (show gat gone l j = gat gone l (j + 1) by rw [gat_step gone l j hlt, hfe, hgf, dif_neg hj0]; simp only [he]; rw [hp, hb]; simp)
      have HS1 := hide hS1
      rw [hgf] at HFl
      clear hgf hfe hS1 hp
      go_wp2_with fail
      refine wp_region_noPanic ?_
      refine wp_region_held_drew (S := (fun W => (W.cell? ⟨g, o + j * 5, none⟩ = some (.string n) ∧ W.cell? ⟨g, o + j * 5 + 1, none⟩ = some (.int .u8 (k : Nat)) ∧ W.cell? ⟨g, o + j * 5 + 2, none⟩ = some (.string t) ∧ W.cell? ⟨g, o + j * 5 + 3, none⟩ = some (.float .f32 v) ∧ W.cell? ⟨g, o + j * 5 + 4, none⟩ = some (.int .u8 (u : Nat))) ∧ W.cell? ⟨g, o + i * 5, none⟩ = some (.string p))) (by kernel_rfl) ((unhide HS1) _ (Fr.refl _ _).drew) (fun hHeld => ?_)
      refine wtk2 (i := 0) rfl hHeld ?_
      (try simp only [Act.put, nrm])
      refine wtk2 (i := 1) rfl hHeld ?_
      (try simp only [Act.put, nrm])
      refine wtk2 (i := 2) rfl hHeld ?_
      (try simp only [Act.put, nrm])
      refine wtk2 (i := 3) rfl hHeld ?_
      (try simp only [Act.put, nrm])
      refine wtk2 (i := 4) rfl hHeld ?_
      (try simp only [Act.put, nrm])
      refine wpAnyH_ready (rs := [5]) (by kernel_rfl) (by simp) (AllReadyH.cons rfl (fun K hK => ?_) AllReadyH.nil)
      go_simp
      refine ((unhide HFl) _).mono ?_
      rintro e w2 ⟨rfl, hf2⟩
      have F2 := hide ((Fr.refl (fun _ => False) wr).drew.trans hf2 (fun _ _ h => h))
      clear hf2
      go_simp
      refine hK.out _ _ ((unhide HS1) _ (unhide F2)) (fun hHeld => ?_)
      clear hK K
      (try simp only [Act.put, nrm])
      refine wtk2 (i := 6) rfl hHeld ?_
      (try simp only [Act.put, nrm])
      refine wtk2 (i := 7) rfl hHeld ?_
      (try simp only [Act.put, nrm])
      refine wtk2 (i := 8) rfl hHeld ?_
      (try simp only [Act.put, nrm])
      refine wtk2 (i := 9) rfl hHeld ?_
      (try simp only [Act.put, nrm])
      refine wtk2 (i := 10) rfl hHeld ?_
      (try simp only [Act.put, nrm])
      refine wtk2 (i := 11) rfl hHeld ?_
      (try simp only [Act.put, nrm])
      refine wtk2 (i := 12) rfl hHeld ?_
      (try simp only [Act.put, nrm])
      refine wtk2 (i := 13) rfl hHeld ?_
      (try simp only [Act.put, nrm])
      refine wtk2 (i := 14) rfl hHeld ?_
      (try simp only [Act.put, nrm])
      refine wtk2 (i := 15) rfl hHeld ?_
      (try simp only [Act.put, nrm])
      refine wtk2 (i := 16) rfl hHeld ?_
      (try simp only [Act.put, nrm])
      refine wtk2 (i := 17) rfl hHeld ?_
      (try simp only [Act.put, nrm])
      refine wtk2 (i := 18) rfl hHeld ?_
      (try simp only [Act.put, nrm])
      refine wtk2 (i := 19) rfl hHeld ?_
      (try simp only [Act.put, nrm])
      refine wtk2 (i := 20) rfl hHeld ?_
      (try simp only [Act.put, nrm])
      refine wtk2 (i := 21) rfl hHeld ?_
      (try simp only [Act.put, nrm])
      refine wtk2 (i := 22) rfl hHeld ?_
      (try simp only [Act.put, nrm])
      refine wtk2 (i := 23) rfl hHeld ?_
      (try simp only [Act.put, nrm])
      refine wtk2 (i := 24) rfl hHeld ?_
      (try simp only [Act.put, nrm])
      refine wtk2 (i := 25) rfl hHeld ?_
      (try simp only [Act.put, nrm])
      refine wpAnyH_done (by kernel_rfl) ?_ _
      refine NoPanic.normal ?_
      clear HFl HS1
      go_wp2_with fail
      go_roundw
      case rel => exact ⟨j + 1, hlt, by go_num, by rw [(unhide HR).1, unhide HQ], (unhide HR).2.trans (unhide F2) (fun _ _ h => h)⟩
      case measure => simp [intOf]; omega
  ·obtain rfl : j = l.length := by omega
   have HR := hide (And.intro hG hf)
   clear hG hf
   go_wp2_with fail
   go_ret
   have hv0 : fdsB l gone = decide (l.length ≤ 32) := by rw [← gfds_eq, (unhide HR).1, gat_end]; simp
   refine ⟨?_, (unhide HR).2⟩
   rw [hv0]
   refine congrArg (fun b => Ending.returned (.bool b)) ?_
   rw [decide_eq_decide]
   omega
end Go.Proofs.YtiknjghcjaaenaaGreatDoor
